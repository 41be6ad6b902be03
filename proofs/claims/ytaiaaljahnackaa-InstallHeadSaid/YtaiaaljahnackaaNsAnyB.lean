/- One step of an installer of layer 12's laws: the contract. -/
import Derived.Test.YtaiaaljahnackaaNsStepB
import Derived.Test.YtaiaaljahnackaaNsStepC
import Derived.Test.YtaiaaljahnackaaNsJob
import Derived.Test.YtaiaaljahnackaaNsJob1
namespace Go.Proofs.Ytaiaaljahnackaa
open Go.RowKit

theorem settle_stay (j : Ins) (hs : j.st ≤ 8) (hb : j.busyB = true) : settleI j = j := by
  show settleGo (9 - j.st) j = j
  obtain ⟨g, hg⟩ : ∃ g, 9 - j.st = g + 1 := ⟨8 - j.st, by omega⟩
  rw [hg, settleGo, if_pos hb]
theorem settle_up (j : Ins) (hs : j.st < 8) (hb : j.busyB = false) : settleI j = settleI { j with st := j.st + 1 } := by
  show settleGo (9 - j.st) j = settleGo (9 - (j.st + 1)) _
  obtain ⟨g, hg⟩ : ∃ g, 9 - j.st = g + 1 := ⟨8 - j.st, by omega⟩
  rw [hg, settleGo, if_neg (by rw [hb]; decide), if_neg (by omega), show 9 - (j.st + 1) = g by omega]
theorem settle_end (j : Ins) (hs : j.st = 8) (hb : j.busyB = false) : settleI j = Ins.zero j.er := by
  show settleGo (9 - j.st) j = _
  rw [show 9 - j.st = 0 + 1 by omega, settleGo, if_neg (by rw [hb]; decide), if_pos hs]
theorem busy_at1 {j : Ins} (h : j.st = 1) : j.busyB = decide (j.tk < j.news) := by unfold Ins.busyB; rw [h]; rfl
theorem busy_at2 {j : Ins} (h : j.st = 2) : j.busyB = j.hasF := by unfold Ins.busyB; rw [h]; rfl
theorem busy_at3 {j : Ins} (h : j.st = 3) : j.busyB = decide (j.pt < j.news) := by unfold Ins.busyB; rw [h]; rfl
theorem busy_at4 {j : Ins} (h : j.st = 4) : j.busyB = decide (j.sw < j.news) := by unfold Ins.busyB; rw [h]; rfl
theorem busy_at5 {j : Ins} (h : j.st = 5) : j.busyB = decide (j.pt ≤ j.news) := by unfold Ins.busyB; rw [h]; rfl
theorem busy_at6 {j : Ins} (h : j.st = 6) : j.busyB = true := by unfold Ins.busyB; rw [h]; rfl
theorem busy_at0 {j : Ins} (h : j.st = 0) : j.busyB = true := by unfold Ins.busyB; rw [h]; rfl
theorem busy_at7 {j : Ins} (h : j.st = 7) : j.busyB = decide (0 < j.pt) := by unfold Ins.busyB; rw [h]; rfl
theorem busy_at8 {j : Ins} (h : j.st = 8) : j.busyB = decide (0 < j.tk) := by unfold Ins.busyB; rw [h]; rfl
theorem settle_take (i : Ins) (x : Int) (hs : i.st = 1) (hn : i.tk < i.news) (hf : i.hasF = true) : ∃ s, settleI (takeI i x) = { takeI i x with st := s } ∧ ((s = 1 ∧ i.tk + 1 < i.news) ∨ (s = 2 ∧ i.tk + 1 = i.news)) := by
  have h1 : (takeI i x).st = 1 := hs
  by_cases h : i.tk + 1 < i.news
  · refine ⟨1, ?_, .inl ⟨rfl, h⟩⟩
    rw [settle_stay _ (by omega) (by rw [busy_at1 h1]; exact decide_eq_true h)]
    cases i; cases hs; rfl
  · refine ⟨2, ?_, .inr ⟨rfl, by omega⟩⟩
    rw [settle_up _ (by omega) (by rw [busy_at1 h1]; exact decide_eq_false h), h1]
    exact settle_stay _ (by show 2 ≤ 8; decide) (by rw [busy_at2 rfl]; exact hf)
theorem settle_fill3 (i : Ins) (r : Rf) (hs : i.st = 3) (hn : i.pt < i.news) (hw : i.sw = 0) : ∃ s, settleI (fillI i r) = { fillI i r with st := s } ∧ ((s = 3 ∧ i.pt + 1 < i.news) ∨ (s = 4 ∧ i.pt + 1 = i.news)) := by
  have h1 : (fillI i r).st = 3 := hs
  by_cases h : i.pt + 1 < i.news
  · refine ⟨3, ?_, .inl ⟨rfl, h⟩⟩
    rw [settle_stay _ (by omega) (by rw [busy_at3 h1]; exact decide_eq_true h)]
    cases i; cases hs; rfl
  · refine ⟨4, ?_, .inr ⟨rfl, by omega⟩⟩
    rw [settle_up _ (by omega) (by rw [busy_at3 h1]; exact decide_eq_false h), h1]
    exact settle_stay _ (by show 4 ≤ 8; decide) (by rw [busy_at4 rfl]; exact decide_eq_true (by show i.sw < i.news; omega))
theorem settle_fill5 (i : Ins) (r : Rf) (hs : i.st = 5) (hn : i.pt = i.news) : settleI (fillI i r) = { fillI i r with st := 6 } := by
  have h1 : (fillI i r).st = 5 := hs
  rw [settle_up _ (by omega) (by rw [busy_at5 h1]; exact decide_eq_false (by show ¬ i.pt + 1 ≤ i.news; omega)), h1]
  exact settle_stay _ (by show 6 ≤ 8; decide) (busy_at6 rfl)
theorem settle_swap4 (i : Ins) (hs : i.st = 4) (hn : i.sw < i.news) (hp : i.pt = i.news) : ∃ s, settleI (swapI i) = { swapI i with st := s } ∧ ((s = 4 ∧ i.sw + 1 < i.news) ∨ (s = 5 ∧ i.sw + 1 = i.news)) := by
  have h1 : (swapI i).st = 4 := hs
  by_cases h : i.sw + 1 < i.news
  · refine ⟨4, ?_, .inl ⟨rfl, h⟩⟩
    rw [settle_stay _ (by omega) (by rw [busy_at4 h1]; exact decide_eq_true h)]
    cases i; cases hs; rfl
  · refine ⟨5, ?_, .inr ⟨rfl, by omega⟩⟩
    rw [settle_up _ (by omega) (by rw [busy_at4 h1]; exact decide_eq_false h), h1]
    exact settle_stay _ (by show 5 ≤ 8; decide) (by rw [busy_at5 rfl]; exact decide_eq_true (by show i.pt ≤ i.news; omega))
theorem settle_succ (i : Ins) : settleI (succI i) = succI i := settle_stay _ (by show 0 ≤ 8; decide) (busy_at0 rfl)
/-- what undoing goes on with -/
def backI (j : Ins) : Ins := if 0 < j.pt then { j with st := 7 } else if 0 < j.tk then { j with st := 8 } else Ins.zero j.er
theorem settle_back (j : Ins) (hs : j.st = 7 ∨ (j.st = 8 ∧ j.pt = 0)) : settleI j = backI j := by
  unfold backI
  rcases hs with h | ⟨h, hp⟩
  · by_cases h0 : 0 < j.pt
    · rw [if_pos h0, settle_stay _ (by omega) (by rw [busy_at7 h]; exact decide_eq_true h0)]
      cases j; cases h; rfl
    · rw [if_neg h0, settle_up _ (by omega) (by rw [busy_at7 h]; exact decide_eq_false h0), h]
      by_cases h1 : 0 < j.tk
      · rw [if_pos h1]
        exact settle_stay _ (by show 8 ≤ 8; decide) (by rw [busy_at8 rfl]; exact decide_eq_true h1)
      · rw [if_neg h1]
        exact settle_end _ rfl (by rw [busy_at8 rfl]; exact decide_eq_false h1)
  · rw [if_neg (by omega)]
    by_cases h1 : 0 < j.tk
    · rw [if_pos h1, settle_stay _ (by omega) (by rw [busy_at8 h]; exact decide_eq_true h1)]
      cases j; cases h; rfl
    · rw [if_neg h1]
      exact settle_end _ h (by rw [busy_at8 h]; exact decide_eq_false h1)
/-- the forms of an installer -/
def Shape (i : Ins) : Prop :=
  i.news ≤ 4 ∧ i.tk ≤ 4 ∧ i.pt ≤ 5 ∧ i.sw ≤ 4 ∧ ErV i.er ∧
  ((i.st = 0 ∧ i.fn = .nilFunc) ∨ (i.st = 1 ∧ i.tk < i.news ∧ i.pt = 0 ∧ i.sw = 0 ∧ i.dn = false) ∨ (i.st = 2 ∧ i.tk = i.news ∧ i.pt = 0 ∧ i.sw = 0 ∧ i.dn = false) ∨
   (i.st = 3 ∧ i.fn = .nilFunc ∧ i.tk = i.news ∧ i.pt < i.news ∧ i.sw = 0 ∧ i.dn = false) ∨ (i.st = 4 ∧ i.fn = .nilFunc ∧ i.tk = i.news ∧ i.pt = i.news ∧ i.sw < i.news ∧ i.dn = false) ∨
   (i.st = 5 ∧ i.fn = .nilFunc ∧ i.tk = i.news ∧ i.pt = i.news ∧ i.sw = i.news ∧ i.dn = false) ∨ (i.st = 6 ∧ i.fn = .nilFunc ∧ i.tk = i.news ∧ i.pt = i.news + 1 ∧ i.sw = i.news ∧ i.dn = false) ∨
   (i.st = 7 ∧ i.fn = .nilFunc ∧ 0 < i.pt ∧ i.dn = false) ∨ (i.st = 8 ∧ i.fn = .nilFunc ∧ i.pt = 0 ∧ 0 < i.tk ∧ i.dn = false))
theorem shape_back (j : Ins) (hn : j.news ≤ 4) (ht : j.tk ≤ 4) (hp : j.pt ≤ 5) (hw : j.sw ≤ 4) (he : ErV j.er) (hf : j.fn = .nilFunc) (hd : j.dn = false) : Shape (backI j) := by
  unfold backI
  split
  · next h => exact ⟨hn, ht, hp, hw, he, .inr (.inr (.inr (.inr (.inr (.inr (.inr (.inl ⟨rfl, hf, h, hd⟩)))))))⟩
  · next h =>
    split
    · next h1 => exact ⟨hn, ht, hp, hw, he, .inr (.inr (.inr (.inr (.inr (.inr (.inr (.inr ⟨rfl, hf, by show j.pt = 0; omega, h1, hd⟩)))))))⟩
    · exact ⟨by show 0 ≤ 4; decide, by show 0 ≤ 4; decide, by show 0 ≤ 5; decide, by show 0 ≤ 4; decide, he, .inl ⟨rfl, rfl⟩⟩
theorem back_dn (j : Ins) (hd : j.dn = false) : (backI j).dn = false := by
  unfold backI
  split
  · exact hd
  · split
    · exact hd
    · rfl

open Go.RowKit

/-- undone, for an error -/
def Und (i j : Ins) : Prop := ∃ v, ErV v ∧ j = undoI i v
/-- the records that an installer puts in place -/
def Ins.recs (i : Ins) (d : JbD) (ds : List RecD) (hd : RecD) (q : Nat) : RecD := recsM ds (mkHd hd d.fresh i.pgsL) i.news q
/-- one step, ahead of settling -/
def AStep (l : LimN) (d : JbD) (ds : List RecD) (hd : RecD) (i : Ins) (ps : List Pt) (L : List Pg) (j : Ins) (ps' : List Pt) (L' : List Pg) : Prop :=
  (i.st = 1 ∧ ps' = ps ∧ L' = takeL L ∧ ((takeE L = 0 ∧ j = takeI i (takeN L : Int)) ∨ (takeE L ≠ 0 ∧ Und i j))) ∨
  (i.st = 2 ∧ ps' = putM l.s l.c ps (i.recs d ds hd 0) ∧ L' = L ∧ ∃ rc, ((allocM l.s l.c ps).2.2 = 0 ∧ j = fillI (madeI i rc) (((allocM l.s l.c ps).1 : Int), ((allocM l.s l.c ps).2.1 : Int))) ∨ ((allocM l.s l.c ps).2.2 ≠ 0 ∧ Und (madeI i rc) j)) ∨
  ((i.st = 3 ∨ i.st = 5) ∧ ps' = putM l.s l.c ps (i.recs d ds hd i.pt) ∧ L' = L ∧ (((allocM l.s l.c ps).2.2 = 0 ∧ j = fillI i (((allocM l.s l.c ps).1 : Int), ((allocM l.s l.c ps).2.1 : Int))) ∨ ((allocM l.s l.c ps).2.2 ≠ 0 ∧ Und i j))) ∨
  (i.st = 4 ∧ ps' = ps ∧ L' = swapL L (i.pg i.sw) (0, 0) (i.rf i.sw) ∧ ((swapB L (i.pg i.sw) (0, 0) = true ∧ j = swapI i) ∨ (swapB L (i.pg i.sw) (0, 0) = false ∧ Und i j))) ∨
  (i.st = 6 ∧ ps' = ps ∧ L' = swapL L i.page (i.os, i.og) (i.rf i.sw) ∧ ((swapB L i.page (i.os, i.og) = true ∧ j = succI (swapI i)) ∨ (swapB L i.page (i.os, i.og) = false ∧ Und i j))) ∨
  (i.st = 7 ∧ ps' = freeM l.s ps (i.rf (i.pt - 1)).1 (i.rf (i.pt - 1)).2 ∧ L' = L ∧ j = { i with pt := i.pt - 1 }) ∨
  (i.st = 8 ∧ ps' = ps ∧ L' = giveL L (i.pg (i.tk - 1)) ∧ j = { i with tk := i.tk - 1 })
/-- an installer of a job of the laws', between two steps -/
structure AgI (w : World) (T : Nat → Prop) (b : Nat) (i : Ins) (d : JbD) (ds : List RecD) (hd : RecD) (jb cb cl : Nat) : Prop where
  lies : InsAt w b i
  sh : Shape i
  job : (i.st = 1 ∨ i.st = 2) → i.fn = .func (.func 35) #[] #[.pointer (some ⟨cb, 0, none⟩), .pointer (some ⟨jb, 0, none⟩)] ∧ i.rc = (fun _ => rcZ) ∧ w.heap[jb]? = some (.cells d.cells.toArray 46 (0, 0)) ∧ w.heap[cb]? = some (.cells #[.pointer (some ⟨cl, 0, none⟩)] 53 (0, 0)) ∧ ¬ T jb ∧ ¬ T cb
  recs : (3 ≤ i.st ∧ i.st ≤ 6) → ∀ q, q ≤ i.news → RecL w T (rcLf i.rc q) (i.recs d ds hd q)
theorem AgI.fnok {w : World} {T : Nat → Prop} {b : Nat} {i : Ins} {d : JbD} {ds : List RecD} {hd : RecD} {jb cb cl : Nat} (h : AgI w T b i d ds hd jb cb cl) : FnOk i.fn := by
  obtain ⟨-, -, -, -, -, h9⟩ := h.sh
  rcases h9 with ⟨-, e⟩ | ⟨e, -⟩ | ⟨e, -⟩ | ⟨-, e, -⟩ | ⟨-, e, -⟩ | ⟨-, e, -⟩ | ⟨-, e, -⟩ | ⟨-, e, -⟩ | ⟨-, e, -⟩
  · exact .inl e
  · exact .inr ⟨_, _, _, (h.job (.inl e)).1⟩
  · exact .inr ⟨_, _, _, (h.job (.inr e)).1⟩
  all_goals exact .inl e
/-- undoing, or over -/
theorem AgI.rest {w : World} {T : Nat → Prop} {b : Nat} {j : Ins} {d : JbD} {ds : List RecD} {hd : RecD} {jb cb cl : Nat} (h : InsAt w b j) (hs : Shape j) (h0 : j.st = 0 ∨ j.st = 7 ∨ j.st = 8) : AgI w T b j d ds hd jb cb cl :=
  ⟨h, hs, fun e => by omega, fun e => by omega⟩
theorem back_st (j : Ins) : (backI j).st = 0 ∨ (backI j).st = 7 ∨ (backI j).st = 8 := by
  unfold backI
  split
  · exact .inr (.inl rfl)
  · split
    · exact .inr (.inr rfl)
    · exact .inl rfl
theorem AgI.back {w : World} {T : Nat → Prop} {b : Nat} {j : Ins} {d : JbD} {ds : List RecD} {hd : RecD} {jb cb cl : Nat} (h : InsAt w b (settleI j)) (hs : j.st = 7 ∨ (j.st = 8 ∧ j.pt = 0)) (hn : j.news ≤ 4) (ht : j.tk ≤ 4) (hp : j.pt ≤ 5) (hw : j.sw ≤ 4) (he : ErV j.er) (hf : j.fn = .nilFunc) (hd' : j.dn = false) : AgI w T b (settleI j) d ds hd jb cb cl := by
  rw [settle_back j hs] at h ⊢
  exact AgI.rest h (shape_back j hn ht hp hw he hf hd') (back_st j)
theorem AgI.und {w : World} {T : Nat → Prop} {b : Nat} {i j : Ins} {d : JbD} {ds : List RecD} {hd : RecD} {jb cb cl : Nat} (h : InsAt w b (settleI j)) (hu : Und i j) (ht : i.tk ≤ 4) (hp : i.pt ≤ 5) : AgI w T b (settleI j) d ds hd jb cb cl := by
  obtain ⟨v, hv, rfl⟩ := hu
  exact AgI.back h (.inl rfl) (by show 0 ≤ 4; decide) ht hp (by show 0 ≤ 4; decide) hv rfl rfl

open Go.RowKit

theorem hF_job : ∀ args w, (callFunc 35 args).run Try.prog w = .ok (.enter 35 args) w := fun args w => by simp [go_sem]
/-- what holds around an installer -/
structure AgW (w0 w : World) (T : Nat → Prop) (b : Nat) (d : JbD) (bs : List RcL) (ds : List RecD) (hd : RecD) (cl : Nat) (m : MB) (S : Nat → Prop) : Prop where
  jobR : JobR w0 d bs ds hd
  below : Below w0.heap.size w0 w
  ctr : IntAt w cl
  tin : ∀ k, T k → w0.heap.size ≤ k ∧ k < w.heap.size
  tm : ∀ k, MS m S k → T k
  tb : T b
  tc : T cl
  nb : ¬ MS m S b
  nc : ¬ MS m S cl
  ne : b ≠ cl
/-- behind a step -/
def AgQ (w : World) (T : Nat → Prop) (b : Nat) (i : Ins) (d : JbD) (ds : List RecD) (hd : RecD) (jb cb cl : Nat) (m : MB) (S : Nat → Prop) (l : LimN) (k : Int) (ps : List Pt) (L : List Pg) (c : Ck) (ev : Ending) (w' : World) : Prop :=
  ∃ S' j ps' L', ev = .returned (.bool (((settleI j).st : Int) == 0)) ∧ MemAt w' m S' l (inc k) ps' L' c ∧ AStep l d ds hd i ps L j ps' L' ∧ AgI w' (fun x => T x ∨ MS m S' x) b (settleI j) d ds hd jb cb cl ∧ Kept (fun x => US m S b x ∨ x = cl) w w' ∧ (∀ x, MS m S' x → MS m S x ∨ w.heap.size ≤ x) ∧ IntAt w' cl
/-- a job's closure, kept over a step -/
theorem AgI.job_keep {w w' : World} {T : Nat → Prop} {b : Nat} {i : Ins} {d : JbD} {ds : List RecD} {hd : RecD} {jb cb cl : Nat} {m : MB} {S S' : Nat → Prop} (h : AgI w T b i d ds hd jb cb cl) (hs : i.st = 1 ∨ i.st = 2) (hk : Kept (US m S b) w w') (hm : ∀ x, MS m S x → T x) (hb : T b) (hS : ∀ x, MS m S' x → MS m S x ∨ w.heap.size ≤ x) :
    w'.heap[jb]? = some (.cells d.cells.toArray 46 (0, 0)) ∧ w'.heap[cb]? = some (.cells #[.pointer (some ⟨cl, 0, none⟩)] 53 (0, 0)) ∧ ¬ (T jb ∨ MS m S' jb) ∧ ¬ (T cb ∨ MS m S' cb) := by
  obtain ⟨-, -, h1, h2, h3, h4⟩ := h.job hs
  have hj := (Array.getElem?_eq_some_iff.1 h1).1
  have hc := (Array.getElem?_eq_some_iff.1 h2).1
  refine ⟨(hk.block jb hj (fun hu => hu.elim (fun q => h3 (hm _ q)) (fun e => h3 (e ▸ hb)))).trans h1, (hk.block cb hc (fun hu => hu.elim (fun q => h4 (hm _ q)) (fun e => h4 (e ▸ hb)))).trans h2, fun q => q.elim h3 (fun q => (hS _ q).elim (fun q => h3 (hm _ q)) (fun q => by omega)), fun q => q.elim h4 (fun q => (hS _ q).elim (fun q => h4 (hm _ q)) (fun q => by omega))⟩
/-- its records, kept over a step -/
theorem AgI.recs_keep {w w' : World} {T : Nat → Prop} {b : Nat} {i : Ins} {d : JbD} {ds : List RecD} {hd : RecD} {jb cb cl : Nat} {m : MB} {S S' : Nat → Prop} (h : AgI w T b i d ds hd jb cb cl) (hs : 3 ≤ i.st ∧ i.st ≤ 6) (hk : Kept (US m S b) w w') (hm : ∀ x, MS m S x → T x) (hb : T b) (hS : ∀ x, MS m S' x → MS m S x ∨ w.heap.size ≤ x) :
    ∀ q, q ≤ i.news → RecL w' (fun x => T x ∨ MS m S' x) (rcLf i.rc q) (i.recs d ds hd q) := fun q hq =>
  (h.recs hs q hq).grow hk (fun x hu => hu.elim (hm x) (fun e => e ▸ hb)) (fun x hx => hx.elim .inl (fun hx => (hS x hx).imp (hm x) id))
theorem us_nox {m : MB} {S : Nat → Prop} {b : Nat} {w w' : World} (h : Kept (fun x => US m S b x ∨ NoX x) w w') : Kept (US m S b) w w' := h.wide fun _ _ h => h.elim id (fun h => h.elim)
theorem ag1 (w0 w : World) (T : Nat → Prop) (b : Nat) (i : Ins) (d : JbD) (bs : List RcL) (ds : List RecD) (hd : RecD) (jb cb cl : Nat) (m : MB) (S : Nat → Prop) (l : LimN) (k : Int) (ps : List Pt) (L : List Pg) (c : Ck) (h : AgI w T b i d ds hd jb cb cl) (hW : AgW w0 w T b d bs ds hd cl m S) (hM : MemAt w m S l k ps L c) (hs : i.st = 1) :
    Calls Try.prog 12 #[.pointer (some ⟨b, 0, none⟩), .pointer (some ⟨m.mb, 0, none⟩)] w (AgQ w T b i d ds hd jb cb cl m S l k ps L c) := by
  obtain ⟨hn4, ht4, hp5, hw4, her, hsh⟩ := h.sh
  obtain ⟨g1, g2, g3, g4⟩ : i.tk < i.news ∧ i.pt = 0 ∧ i.sw = 0 ∧ i.dn = false := by
    rcases hsh with g | g | g | g | g | g | g | g | g <;> first | (have := g.1; omega) | exact g.2
  refine (iStep1 w b i m S l k ps L c h.lies hM hW.nb h.fnok her hs (by omega)).mono ?_
  rintro ev w' ⟨S', j, rfl, hI, hM', hk, hS, hj⟩
  have hk2 := us_nox hk
  have hk3 : Kept (fun x => US m S b x ∨ x = cl) w w' := hk2.wide fun _ _ h => .inl h
  have hi3 : IntAt w' cl := hW.ctr.kept hk2 (fun h => h.elim hW.nc (fun e => hW.ne e.symm))
  refine ⟨S', j, ps, takeL L, rfl, hM', .inl ⟨hs, rfl, rfl, hj.imp id (fun ⟨h1, v, h2, h3⟩ => ⟨h1, v, h2.erv, h3⟩)⟩, ?_, hk3, hS, hi3⟩
  rcases hj with ⟨-, rfl⟩ | ⟨-, v, hv, rfl⟩
  · obtain ⟨e1, e2, -⟩ := h.job (.inl hs)
    obtain ⟨s, hse, hs2⟩ := settle_take i (takeN L : Int) hs g1 (by unfold Ins.hasF; rw [e1])
    rw [hse] at hI ⊢
    have hj := h.job_keep (m := m) (.inl hs) hk2 hW.tm hW.tb hS
    refine ⟨hI, ⟨hn4, by show i.tk + 1 ≤ 4; omega, hp5, hw4, her, ?_⟩, fun _ => ⟨e1, e2, hj⟩, fun e => ?_⟩
    · rcases hs2 with ⟨q1, q2⟩ | ⟨q1, q2⟩
      · exact .inr (.inl ⟨q1, q2, g2, g3, g4⟩)
      · exact .inr (.inr (.inl ⟨q1, q2, g2, g3, g4⟩))
    · have h1 : 3 ≤ s := e.1
      rcases hs2 with ⟨q1, -⟩ | ⟨q1, -⟩ <;> omega
  · exact AgI.und hI ⟨v, hv.erv, rfl⟩ ht4 hp5
theorem ag3 (w0 w : World) (T : Nat → Prop) (b : Nat) (i : Ins) (d : JbD) (bs : List RcL) (ds : List RecD) (hd : RecD) (jb cb cl : Nat) (m : MB) (S : Nat → Prop) (l : LimN) (k : Int) (ps : List Pt) (L : List Pg) (c : Ck) (h : AgI w T b i d ds hd jb cb cl) (hW : AgW w0 w T b d bs ds hd cl m S) (hM : MemAt w m S l k ps L c) (hs : i.st = 3) :
    Calls Try.prog 12 #[.pointer (some ⟨b, 0, none⟩), .pointer (some ⟨m.mb, 0, none⟩)] w (AgQ w T b i d ds hd jb cb cl m S l k ps L c) := by
  obtain ⟨hn4, ht4, hp5, hw4, her, hsh⟩ := h.sh
  obtain ⟨g0, g1, g2, g3, g4⟩ : i.fn = .nilFunc ∧ i.tk = i.news ∧ i.pt < i.news ∧ i.sw = 0 ∧ i.dn = false := by
    rcases hsh with g | g | g | g | g | g | g | g | g <;> first | (have := g.1; omega) | exact g.2
  have hr := h.recs ⟨by omega, by omega⟩ i.pt (by omega)
  refine (iStep3 w b i m S l k ps L c h.lies hM hW.nb h.fnok her hs (by omega) _ (hr.inn hW.tm)).mono ?_
  rintro ev w' ⟨S', j, rfl, hI, hM', hk, hS, hj⟩
  have hk2 := us_nox hk
  have hk3 : Kept (fun x => US m S b x ∨ x = cl) w w' := hk2.wide fun _ _ h => .inl h
  have hi3 : IntAt w' cl := hW.ctr.kept hk2 (fun h => h.elim hW.nc (fun e => hW.ne e.symm))
  refine ⟨S', j, _, L, rfl, hM', .inr (.inr (.inl ⟨.inl hs, rfl, rfl, hj.imp id (fun ⟨h1, v, h2, h3⟩ => ⟨h1, v, h2.erv, h3⟩)⟩)), ?_, hk3, hS, hi3⟩
  rcases hj with ⟨-, rfl⟩ | ⟨-, v, hv, rfl⟩
  · have hj := h.recs_keep (m := m) ⟨by omega, by omega⟩ hk2 hW.tm hW.tb hS
    obtain ⟨s, hse, hs2⟩ := settle_fill3 i (((allocM l.s l.c ps).1 : Int), ((allocM l.s l.c ps).2.1 : Int)) hs g2 g3
    rw [hse] at hI ⊢
    refine ⟨hI, ⟨hn4, ht4, by show i.pt + 1 ≤ 5; omega, hw4, her, ?_⟩, fun e => ?_, fun _ => hj⟩
    · rcases hs2 with ⟨q1, q2⟩ | ⟨q1, q2⟩
      · exact .inr (.inr (.inr (.inl ⟨q1, g0, g1, q2, g3, g4⟩)))
      · exact .inr (.inr (.inr (.inr (.inl ⟨q1, g0, g1, q2, by show i.sw < i.news; omega, g4⟩))))
    · have h1 : s = 1 ∨ s = 2 := e
      rcases hs2 with ⟨q1, -⟩ | ⟨q1, -⟩ <;> omega
  · exact AgI.und hI ⟨v, hv.erv, rfl⟩ ht4 hp5
theorem ag5 (w0 w : World) (T : Nat → Prop) (b : Nat) (i : Ins) (d : JbD) (bs : List RcL) (ds : List RecD) (hd : RecD) (jb cb cl : Nat) (m : MB) (S : Nat → Prop) (l : LimN) (k : Int) (ps : List Pt) (L : List Pg) (c : Ck) (h : AgI w T b i d ds hd jb cb cl) (hW : AgW w0 w T b d bs ds hd cl m S) (hM : MemAt w m S l k ps L c) (hs : i.st = 5) :
    Calls Try.prog 12 #[.pointer (some ⟨b, 0, none⟩), .pointer (some ⟨m.mb, 0, none⟩)] w (AgQ w T b i d ds hd jb cb cl m S l k ps L c) := by
  obtain ⟨hn4, ht4, hp5, hw4, her, hsh⟩ := h.sh
  obtain ⟨g0, g1, g2, g3, g4⟩ : i.fn = .nilFunc ∧ i.tk = i.news ∧ i.pt = i.news ∧ i.sw = i.news ∧ i.dn = false := by
    rcases hsh with g | g | g | g | g | g | g | g | g <;> first | (have := g.1; omega) | exact g.2
  have hr := h.recs ⟨by omega, by omega⟩ i.pt (by omega)
  refine (iStep5 w b i m S l k ps L c h.lies hM hW.nb h.fnok her hs (by omega) _ (hr.inn hW.tm)).mono ?_
  rintro ev w' ⟨S', j, rfl, hI, hM', hk, hS, hj⟩
  have hk2 := us_nox hk
  have hk3 : Kept (fun x => US m S b x ∨ x = cl) w w' := hk2.wide fun _ _ h => .inl h
  have hi3 : IntAt w' cl := hW.ctr.kept hk2 (fun h => h.elim hW.nc (fun e => hW.ne e.symm))
  refine ⟨S', j, _, L, rfl, hM', .inr (.inr (.inl ⟨.inr hs, rfl, rfl, hj.imp id (fun ⟨h1, v, h2, h3⟩ => ⟨h1, v, h2.erv, h3⟩)⟩)), ?_, hk3, hS, hi3⟩
  rcases hj with ⟨-, rfl⟩ | ⟨-, v, hv, rfl⟩
  · have hj := h.recs_keep (m := m) ⟨by omega, by omega⟩ hk2 hW.tm hW.tb hS
    rw [settle_fill5 i _ hs g2] at hI ⊢
    refine ⟨hI, ⟨hn4, ht4, by show i.pt + 1 ≤ 5; omega, hw4, her, .inr (.inr (.inr (.inr (.inr (.inr (.inl ⟨rfl, g0, g1, by show i.pt + 1 = i.news + 1; omega, g3, g4⟩))))))⟩, fun e => ?_, fun _ => hj⟩
    have h1 : (6 : Nat) = 1 ∨ (6 : Nat) = 2 := e
    omega
  · exact AgI.und hI ⟨v, hv.erv, rfl⟩ ht4 hp5
theorem ag4 (w0 w : World) (T : Nat → Prop) (b : Nat) (i : Ins) (d : JbD) (bs : List RcL) (ds : List RecD) (hd : RecD) (jb cb cl : Nat) (m : MB) (S : Nat → Prop) (l : LimN) (k : Int) (ps : List Pt) (L : List Pg) (c : Ck) (h : AgI w T b i d ds hd jb cb cl) (hW : AgW w0 w T b d bs ds hd cl m S) (hM : MemAt w m S l k ps L c) (hs : i.st = 4) :
    Calls Try.prog 12 #[.pointer (some ⟨b, 0, none⟩), .pointer (some ⟨m.mb, 0, none⟩)] w (AgQ w T b i d ds hd jb cb cl m S l k ps L c) := by
  obtain ⟨hn4, ht4, hp5, hw4, her, hsh⟩ := h.sh
  obtain ⟨g0, g1, g2, g3, g4⟩ : i.fn = .nilFunc ∧ i.tk = i.news ∧ i.pt = i.news ∧ i.sw < i.news ∧ i.dn = false := by
    rcases hsh with g | g | g | g | g | g | g | g | g <;> first | (have := g.1; omega) | exact g.2
  refine (iStep4 w b i m S l k ps L c h.lies hM hW.nb h.fnok her hs (by omega)).mono ?_
  rintro ev w' ⟨S', j, rfl, hI, hM', hk, hS, hj⟩
  have hk2 := us_nox hk
  have hk3 : Kept (fun x => US m S b x ∨ x = cl) w w' := hk2.wide fun _ _ h => .inl h
  have hi3 : IntAt w' cl := hW.ctr.kept hk2 (fun h => h.elim hW.nc (fun e => hW.ne e.symm))
  refine ⟨S', j, ps, _, rfl, hM', .inr (.inr (.inr (.inl ⟨hs, rfl, rfl, hj.imp id (fun ⟨h1, v, h2, h3⟩ => ⟨h1, v, h2.erv, h3⟩)⟩))), ?_, hk3, hS, hi3⟩
  rcases hj with ⟨-, rfl⟩ | ⟨-, v, hv, rfl⟩
  · have hj := h.recs_keep (m := m) ⟨by omega, by omega⟩ hk2 hW.tm hW.tb hS
    obtain ⟨s, hse, hs2⟩ := settle_swap4 i hs g3 g2
    rw [hse] at hI ⊢
    refine ⟨hI, ⟨hn4, ht4, hp5, by show i.sw + 1 ≤ 4; omega, her, ?_⟩, fun e => ?_, fun _ => hj⟩
    · rcases hs2 with ⟨q1, q2⟩ | ⟨q1, q2⟩
      · exact .inr (.inr (.inr (.inr (.inl ⟨q1, g0, g1, g2, q2, g4⟩))))
      · exact .inr (.inr (.inr (.inr (.inr (.inl ⟨q1, g0, g1, g2, q2, g4⟩)))))
    · have h1 : s = 1 ∨ s = 2 := e
      rcases hs2 with ⟨q1, -⟩ | ⟨q1, -⟩ <;> omega
  · exact AgI.und hI ⟨v, hv.erv, rfl⟩ ht4 hp5
theorem ag6 (w0 w : World) (T : Nat → Prop) (b : Nat) (i : Ins) (d : JbD) (bs : List RcL) (ds : List RecD) (hd : RecD) (jb cb cl : Nat) (m : MB) (S : Nat → Prop) (l : LimN) (k : Int) (ps : List Pt) (L : List Pg) (c : Ck) (h : AgI w T b i d ds hd jb cb cl) (hW : AgW w0 w T b d bs ds hd cl m S) (hM : MemAt w m S l k ps L c) (hs : i.st = 6) :
    Calls Try.prog 12 #[.pointer (some ⟨b, 0, none⟩), .pointer (some ⟨m.mb, 0, none⟩)] w (AgQ w T b i d ds hd jb cb cl m S l k ps L c) := by
  obtain ⟨hn4, ht4, hp5, hw4, her, hsh⟩ := h.sh
  obtain ⟨g0, g1, g2, g3, g4⟩ : i.fn = .nilFunc ∧ i.tk = i.news ∧ i.pt = i.news + 1 ∧ i.sw = i.news ∧ i.dn = false := by
    rcases hsh with g | g | g | g | g | g | g | g | g <;> first | (have := g.1; omega) | exact g.2
  refine (iStep6 w b i m S l k ps L c h.lies hM hW.nb h.fnok her hs (by omega)).mono ?_
  rintro ev w' ⟨S', j, rfl, hI, hM', hk, hS, hj⟩
  have hk2 := us_nox hk
  have hk3 : Kept (fun x => US m S b x ∨ x = cl) w w' := hk2.wide fun _ _ h => .inl h
  have hi3 : IntAt w' cl := hW.ctr.kept hk2 (fun h => h.elim hW.nc (fun e => hW.ne e.symm))
  refine ⟨S', j, ps, _, rfl, hM', .inr (.inr (.inr (.inr (.inl ⟨hs, rfl, rfl, hj.imp id (fun ⟨h1, v, h2, h3⟩ => ⟨h1, v, h2.erv, h3⟩)⟩)))), ?_, hk3, hS, hi3⟩
  rcases hj with ⟨-, rfl⟩ | ⟨-, v, hv, rfl⟩
  · rw [settle_succ] at hI ⊢
    exact AgI.rest hI ⟨by show 0 ≤ 4; decide, ht4, hp5, by show 0 ≤ 4; decide, .inl rfl, .inl ⟨rfl, rfl⟩⟩ (.inl rfl)
  · exact AgI.und hI ⟨v, hv.erv, rfl⟩ ht4 hp5
theorem ag7 (w0 w : World) (T : Nat → Prop) (b : Nat) (i : Ins) (d : JbD) (bs : List RcL) (ds : List RecD) (hd : RecD) (jb cb cl : Nat) (m : MB) (S : Nat → Prop) (l : LimN) (k : Int) (ps : List Pt) (L : List Pg) (c : Ck) (h : AgI w T b i d ds hd jb cb cl) (hW : AgW w0 w T b d bs ds hd cl m S) (hM : MemAt w m S l k ps L c) (hs : i.st = 7) :
    Calls Try.prog 12 #[.pointer (some ⟨b, 0, none⟩), .pointer (some ⟨m.mb, 0, none⟩)] w (AgQ w T b i d ds hd jb cb cl m S l k ps L c) := by
  obtain ⟨hn4, ht4, hp5, hw4, her, hsh⟩ := h.sh
  obtain ⟨g0, g1, g2⟩ : i.fn = .nilFunc ∧ 0 < i.pt ∧ i.dn = false := by
    rcases hsh with g | g | g | g | g | g | g | g | g <;> first | (have := g.1; omega) | exact g.2
  refine (iStep7 w b i m S l k ps L c h.lies hM hW.nb h.fnok her hs g1 hp5).mono ?_
  rintro ev w' ⟨S', j, rfl, hI, hM', hk, hS, rfl⟩
  have hk2 := us_nox hk
  have hk3 : Kept (fun x => US m S b x ∨ x = cl) w w' := hk2.wide fun _ _ h => .inl h
  have hi3 : IntAt w' cl := hW.ctr.kept hk2 (fun h => h.elim hW.nc (fun e => hW.ne e.symm))
  exact ⟨S', _, _, L, rfl, hM', .inr (.inr (.inr (.inr (.inr (.inl ⟨hs, rfl, rfl, rfl⟩))))), AgI.back hI (.inl hs) hn4 ht4 (by show i.pt - 1 ≤ 5; omega) hw4 her g0 g2, hk3, hS, hi3⟩
theorem ag8 (w0 w : World) (T : Nat → Prop) (b : Nat) (i : Ins) (d : JbD) (bs : List RcL) (ds : List RecD) (hd : RecD) (jb cb cl : Nat) (m : MB) (S : Nat → Prop) (l : LimN) (k : Int) (ps : List Pt) (L : List Pg) (c : Ck) (h : AgI w T b i d ds hd jb cb cl) (hW : AgW w0 w T b d bs ds hd cl m S) (hM : MemAt w m S l k ps L c) (hs : i.st = 8) :
    Calls Try.prog 12 #[.pointer (some ⟨b, 0, none⟩), .pointer (some ⟨m.mb, 0, none⟩)] w (AgQ w T b i d ds hd jb cb cl m S l k ps L c) := by
  obtain ⟨hn4, ht4, hp5, hw4, her, hsh⟩ := h.sh
  obtain ⟨g0, g1, g2, g3⟩ : i.fn = .nilFunc ∧ i.pt = 0 ∧ 0 < i.tk ∧ i.dn = false := by
    rcases hsh with g | g | g | g | g | g | g | g | g <;> first | (have := g.1; omega) | exact g.2
  refine (iStep8 w b i m S l k ps L c h.lies hM hW.nb h.fnok her hs g2 ht4).mono ?_
  rintro ev w' ⟨S', j, rfl, hI, hM', hk, hS, rfl⟩
  have hk2 := us_nox hk
  have hk3 : Kept (fun x => US m S b x ∨ x = cl) w w' := hk2.wide fun _ _ h => .inl h
  have hi3 : IntAt w' cl := hW.ctr.kept hk2 (fun h => h.elim hW.nc (fun e => hW.ne e.symm))
  exact ⟨S', _, ps, _, rfl, hM', .inr (.inr (.inr (.inr (.inr (.inr ⟨hs, rfl, rfl, rfl⟩))))), AgI.back hI (.inr ⟨hs, g1⟩) hn4 (by show i.tk - 1 ≤ 4; omega) hp5 hw4 her g0 g3, hk3, hS, hi3⟩
theorem ag2a (w0 w : World) (T : Nat → Prop) (b : Nat) (i : Ins) (d : JbD) (bs : List RcL) (ds : List RecD) (hd : RecD) (jb cb cl : Nat) (m : MB) (S : Nat → Prop) (l : LimN) (k : Int) (ps : List Pt) (L : List Pg) (c : Ck) (h : AgI w T b i d ds hd jb cb cl) (hW : AgW w0 w T b d bs ds hd cl m S) (hM : MemAt w m S l k ps L c) (hs : i.st = 2) (hz : i.news = 0) :
    Calls Try.prog 12 #[.pointer (some ⟨b, 0, none⟩), .pointer (some ⟨m.mb, 0, none⟩)] w (AgQ w T b i d ds hd jb cb cl m S l k ps L c) := by
  obtain ⟨hn4, ht4, hp5, hw4, her, hsh⟩ := h.sh
  obtain ⟨g1, g2, g3, g4⟩ : i.tk = i.news ∧ i.pt = 0 ∧ i.sw = 0 ∧ i.dn = false := by
    rcases hsh with g | g | g | g | g | g | g | g | g <;> first | (have := g.1; omega) | exact g.2
  obtain ⟨e1, e2, e3, e4, e5, e6⟩ := h.job (.inr hs)
  have hlj := (Array.getElem?_eq_some_iff.1 e3).1
  have hlc := (Array.getElem?_eq_some_iff.1 e4).1
  have hlt := hW.ctr.lt
  have htb := hW.tin b hW.tb
  have htc := hW.tin cl hW.tc
  refine (iStep2a 35 hF_job #[.pointer (some ⟨cb, 0, none⟩), .pointer (some ⟨jb, 0, none⟩)] w b i m S l k ps L c h.lies hM hW.nb h.fnok her (fun x => x = cl) (fun x => x = cl) T hW.ne (fun x hx e => hW.nc (e ▸ hx)) ds (mkHd hd d.fresh i.pgsL) hs e1 e2 hn4 ht4 g2 g3 hz (fun x hx => (hW.tin x hx).2) hW.tb hW.tm (fun x e => e ▸ hW.tc) hW.ne (fun x hx e => hW.nc (e ▸ hx)) (fun w1 pv hk ho => ?_)).mono ?_
  · obtain ⟨n, hcl⟩ := hW.ctr.kept hk (fun e => hW.ne e.symm)
    exact job1_any w0 w1 d bs ds hd jb cb cl w.heap.size n pv i.pgsL hW.jobR (hW.below.trans (hk.below (n := w0.heap.size) (fun x e => e ▸ htb.1) hW.below.size))
      ((hk.block jb hlj (fun e => e5 (e ▸ hW.tb))).trans e3) ((hk.block cb hlc (fun e => e6 (e ▸ hW.tb))).trans e4) hcl ho (by simp [Ins.pgsL]; omega) hW.below.size htc.1 (fun e => by have := (ho.bounds cl e).1; omega)
  rintro ev w' ⟨S', rc', j, rfl, hI, hM', hk, hS, hR, hZ, hj⟩
  refine ⟨S', j, _, L, rfl, hM', .inr (.inl ⟨hs, rfl, rfl, rc', hj.imp id (fun ⟨h1, v, h2, h3⟩ => ⟨h1, v, h2.erv, h3⟩)⟩), ?_, hk, hS, hZ cl rfl hW.ctr⟩
  rcases hj with ⟨-, rfl⟩ | ⟨-, v, hv, rfl⟩
  · have hst : (madeI i rc').st = 5 := if_pos hz
    rw [settle_fill5 (madeI i rc') _ hst (by show i.pt = i.news; omega)] at hI ⊢
    refine ⟨hI, ⟨hn4, ht4, by show i.pt + 1 ≤ 5; omega, hw4, her, .inr (.inr (.inr (.inr (.inr (.inr (.inl ⟨rfl, rfl, g1, by show i.pt + 1 = i.news + 1; omega, by show i.sw = i.news; omega, g4⟩))))))⟩, fun e => ?_, fun _ => hR⟩
    have h1 : (6 : Nat) = 1 ∨ (6 : Nat) = 2 := e
    omega
  · exact AgI.und hI ⟨v, hv.erv, rfl⟩ ht4 (by show i.pt ≤ 5; omega)
theorem ag2b (w0 w : World) (T : Nat → Prop) (b : Nat) (i : Ins) (d : JbD) (bs : List RcL) (ds : List RecD) (hd : RecD) (jb cb cl : Nat) (m : MB) (S : Nat → Prop) (l : LimN) (k : Int) (ps : List Pt) (L : List Pg) (c : Ck) (h : AgI w T b i d ds hd jb cb cl) (hW : AgW w0 w T b d bs ds hd cl m S) (hM : MemAt w m S l k ps L c) (hs : i.st = 2) (hz : 0 < i.news) :
    Calls Try.prog 12 #[.pointer (some ⟨b, 0, none⟩), .pointer (some ⟨m.mb, 0, none⟩)] w (AgQ w T b i d ds hd jb cb cl m S l k ps L c) := by
  obtain ⟨hn4, ht4, hp5, hw4, her, hsh⟩ := h.sh
  obtain ⟨g1, g2, g3, g4⟩ : i.tk = i.news ∧ i.pt = 0 ∧ i.sw = 0 ∧ i.dn = false := by
    rcases hsh with g | g | g | g | g | g | g | g | g <;> first | (have := g.1; omega) | exact g.2
  obtain ⟨e1, e2, e3, e4, e5, e6⟩ := h.job (.inr hs)
  have hlj := (Array.getElem?_eq_some_iff.1 e3).1
  have hlc := (Array.getElem?_eq_some_iff.1 e4).1
  have hlt := hW.ctr.lt
  have htb := hW.tin b hW.tb
  have htc := hW.tin cl hW.tc
  refine (iStep2b 35 hF_job #[.pointer (some ⟨cb, 0, none⟩), .pointer (some ⟨jb, 0, none⟩)] w b i m S l k ps L c h.lies hM hW.nb h.fnok her (fun x => x = cl) (fun x => x = cl) T hW.ne (fun x hx e => hW.nc (e ▸ hx)) ds (mkHd hd d.fresh i.pgsL) hs e1 e2 hn4 ht4 g2 g3 hz (fun x hx => (hW.tin x hx).2) hW.tb hW.tm (fun x e => e ▸ hW.tc) hW.ne (fun x hx e => hW.nc (e ▸ hx)) (fun w1 pv hk ho => ?_)).mono ?_
  · obtain ⟨n, hcl⟩ := hW.ctr.kept hk (fun e => hW.ne e.symm)
    exact job1_any w0 w1 d bs ds hd jb cb cl w.heap.size n pv i.pgsL hW.jobR (hW.below.trans (hk.below (n := w0.heap.size) (fun x e => e ▸ htb.1) hW.below.size))
      ((hk.block jb hlj (fun e => e5 (e ▸ hW.tb))).trans e3) ((hk.block cb hlc (fun e => e6 (e ▸ hW.tb))).trans e4) hcl ho (by simp [Ins.pgsL]; omega) hW.below.size htc.1 (fun e => by have := (ho.bounds cl e).1; omega)
  rintro ev w' ⟨S', rc', j, rfl, hI, hM', hk, hS, hR, hZ, hj⟩
  refine ⟨S', j, _, L, rfl, hM', .inr (.inl ⟨hs, rfl, rfl, rc', hj.imp id (fun ⟨h1, v, h2, h3⟩ => ⟨h1, v, h2.erv, h3⟩)⟩), ?_, hk, hS, hZ cl rfl hW.ctr⟩
  rcases hj with ⟨-, rfl⟩ | ⟨-, v, hv, rfl⟩
  · have hst : (madeI i rc').st = 3 := if_neg (by omega)
    obtain ⟨s, hse, hs2⟩ := settle_fill3 (madeI i rc') (((allocM l.s l.c ps).1 : Int), ((allocM l.s l.c ps).2.1 : Int)) hst (by show i.pt < i.news; omega) g3
    rw [hse] at hI ⊢
    refine ⟨hI, ⟨hn4, ht4, by show i.pt + 1 ≤ 5; omega, hw4, her, ?_⟩, fun e => ?_, fun _ => hR⟩
    · rcases hs2 with ⟨q1, q2⟩ | ⟨q1, q2⟩
      · exact .inr (.inr (.inr (.inl ⟨q1, rfl, g1, q2, g3, g4⟩)))
      · exact .inr (.inr (.inr (.inr (.inl ⟨q1, rfl, g1, q2, by show i.sw < i.news; omega, g4⟩))))
    · have h1 : s = 1 ∨ s = 2 := e
      rcases hs2 with ⟨q1, -⟩ | ⟨q1, -⟩ <;> omega
  · exact AgI.und hI ⟨v, hv.erv, rfl⟩ ht4 (by show i.pt ≤ 5; omega)
theorem ag_step (w0 w : World) (T : Nat → Prop) (b : Nat) (i : Ins) (d : JbD) (bs : List RcL) (ds : List RecD) (hd : RecD) (jb cb cl : Nat) (m : MB) (S : Nat → Prop) (l : LimN) (k : Int) (ps : List Pt) (L : List Pg) (c : Ck) (h : AgI w T b i d ds hd jb cb cl) (hW : AgW w0 w T b d bs ds hd cl m S) (hM : MemAt w m S l k ps L c) (hs : i.st ≠ 0) :
    Calls Try.prog 12 #[.pointer (some ⟨b, 0, none⟩), .pointer (some ⟨m.mb, 0, none⟩)] w (AgQ w T b i d ds hd jb cb cl m S l k ps L c) := by
  have h9 := h.sh.2.2.2.2.2
  rcases h9 with g | g | g | g | g | g | g | g | g
  · exact absurd g.1 hs
  · exact ag1 w0 w T b i d bs ds hd jb cb cl m S l k ps L c h hW hM g.1
  · by_cases hz : i.news = 0
    · exact ag2a w0 w T b i d bs ds hd jb cb cl m S l k ps L c h hW hM g.1 hz
    · exact ag2b w0 w T b i d bs ds hd jb cb cl m S l k ps L c h hW hM g.1 (by omega)
  · exact ag3 w0 w T b i d bs ds hd jb cb cl m S l k ps L c h hW hM g.1
  · exact ag4 w0 w T b i d bs ds hd jb cb cl m S l k ps L c h hW hM g.1
  · exact ag5 w0 w T b i d bs ds hd jb cb cl m S l k ps L c h hW hM g.1
  · exact ag6 w0 w T b i d bs ds hd jb cb cl m S l k ps L c h hW hM g.1
  · exact ag7 w0 w T b i d bs ds hd jb cb cl m S l k ps L c h hW hM g.1
  · exact ag8 w0 w T b i d bs ds hd jb cb cl m S l k ps L c h hW hM g.1
end Go.Proofs.Ytaiaaljahnackaa
