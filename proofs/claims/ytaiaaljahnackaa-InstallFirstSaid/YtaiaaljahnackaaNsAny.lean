/- One step of an installer of layer 12's laws, whatever it does. -/
import Derived.Test.YtaiaaljahnackaaNsStepB
import Derived.Test.YtaiaaljahnackaaNsStepC
import Derived.Test.YtaiaaljahnackaaNsJob
import Derived.Test.YtaiaaljahnackaaNsJob1
namespace Go.Proofs.Ytaiaaljahnackaa
open Go.RowKit

theorem settle_stay (j : Ins) (hs : j.st ≤ 8) (hb : j.busyB = true) : settleI j = j := by
  show settleGo (9 - j.st) j = j
  obtain ⟨g, hg⟩ : ∃ g, 9 - j.st = g + 1 := ⟨8 - j.st, by omega⟩
  rw [hg, settleGo, if_pos hb]
theorem settle_up (j : Ins) (hs : j.st < 8) (hb : j.busyB = false) : settleI j = settleI { j with st := j.st + 1 } := by
  show settleGo (9 - j.st) j = settleGo (9 - (j.st + 1)) _
  obtain ⟨g, hg⟩ : ∃ g, 9 - j.st = g + 1 := ⟨8 - j.st, by omega⟩
  rw [hg, settleGo, if_neg (by rw [hb]; decide), if_neg (by omega), show 9 - (j.st + 1) = g by omega]
theorem settle_end (j : Ins) (hs : j.st = 8) (hb : j.busyB = false) : settleI j = Ins.zero j.er := by
  show settleGo (9 - j.st) j = _
  rw [show 9 - j.st = 0 + 1 by omega, settleGo, if_neg (by rw [hb]; decide), if_pos hs]
theorem busy_at1 {j : Ins} (h : j.st = 1) : j.busyB = decide (j.tk < j.news) := by unfold Ins.busyB; rw [h]; rfl
theorem busy_at2 {j : Ins} (h : j.st = 2) : j.busyB = j.hasF := by unfold Ins.busyB; rw [h]; rfl
theorem busy_at3 {j : Ins} (h : j.st = 3) : j.busyB = decide (j.pt < j.news) := by unfold Ins.busyB; rw [h]; rfl
theorem busy_at4 {j : Ins} (h : j.st = 4) : j.busyB = decide (j.sw < j.news) := by unfold Ins.busyB; rw [h]; rfl
theorem busy_at5 {j : Ins} (h : j.st = 5) : j.busyB = decide (j.pt ≤ j.news) := by unfold Ins.busyB; rw [h]; rfl
theorem busy_at6 {j : Ins} (h : j.st = 6) : j.busyB = true := by unfold Ins.busyB; rw [h]; rfl
theorem busy_at0 {j : Ins} (h : j.st = 0) : j.busyB = true := by unfold Ins.busyB; rw [h]; rfl
theorem busy_at7 {j : Ins} (h : j.st = 7) : j.busyB = decide (0 < j.pt) := by unfold Ins.busyB; rw [h]; rfl
theorem busy_at8 {j : Ins} (h : j.st = 8) : j.busyB = decide (0 < j.tk) := by unfold Ins.busyB; rw [h]; rfl
theorem settle_take (i : Ins) (x : Int) (hs : i.st = 1) (hn : i.tk < i.news) (hf : i.hasF = true) : ∃ s, settleI (takeI i x) = { takeI i x with st := s } ∧ ((s = 1 ∧ i.tk + 1 < i.news) ∨ (s = 2 ∧ i.tk + 1 = i.news)) := by
  have h1 : (takeI i x).st = 1 := hs
  by_cases h : i.tk + 1 < i.news
  · refine ⟨1, ?_, .inl ⟨rfl, h⟩⟩
    rw [settle_stay _ (by omega) (by rw [busy_at1 h1]; exact decide_eq_true h)]
    cases i; cases hs; rfl
  · refine ⟨2, ?_, .inr ⟨rfl, by omega⟩⟩
    rw [settle_up _ (by omega) (by rw [busy_at1 h1]; exact decide_eq_false h), h1]
    exact settle_stay _ (by show 2 ≤ 8; decide) (by rw [busy_at2 rfl]; exact hf)
theorem settle_fill3 (i : Ins) (r : Rf) (hs : i.st = 3) (hn : i.pt < i.news) (hw : i.sw = 0) : ∃ s, settleI (fillI i r) = { fillI i r with st := s } ∧ ((s = 3 ∧ i.pt + 1 < i.news) ∨ (s = 4 ∧ i.pt + 1 = i.news)) := by
  have h1 : (fillI i r).st = 3 := hs
  by_cases h : i.pt + 1 < i.news
  · refine ⟨3, ?_, .inl ⟨rfl, h⟩⟩
    rw [settle_stay _ (by omega) (by rw [busy_at3 h1]; exact decide_eq_true h)]
    cases i; cases hs; rfl
  · refine ⟨4, ?_, .inr ⟨rfl, by omega⟩⟩
    rw [settle_up _ (by omega) (by rw [busy_at3 h1]; exact decide_eq_false h), h1]
    exact settle_stay _ (by show 4 ≤ 8; decide) (by rw [busy_at4 rfl]; exact decide_eq_true (by show i.sw < i.news; omega))
theorem settle_fill5 (i : Ins) (r : Rf) (hs : i.st = 5) (hn : i.pt = i.news) : settleI (fillI i r) = { fillI i r with st := 6 } := by
  have h1 : (fillI i r).st = 5 := hs
  rw [settle_up _ (by omega) (by rw [busy_at5 h1]; exact decide_eq_false (by show ¬ i.pt + 1 ≤ i.news; omega)), h1]
  exact settle_stay _ (by show 6 ≤ 8; decide) (busy_at6 rfl)
theorem settle_swap4 (i : Ins) (hs : i.st = 4) (hn : i.sw < i.news) (hp : i.pt = i.news) : ∃ s, settleI (swapI i) = { swapI i with st := s } ∧ ((s = 4 ∧ i.sw + 1 < i.news) ∨ (s = 5 ∧ i.sw + 1 = i.news)) := by
  have h1 : (swapI i).st = 4 := hs
  by_cases h : i.sw + 1 < i.news
  · refine ⟨4, ?_, .inl ⟨rfl, h⟩⟩
    rw [settle_stay _ (by omega) (by rw [busy_at4 h1]; exact decide_eq_true h)]
    cases i; cases hs; rfl
  · refine ⟨5, ?_, .inr ⟨rfl, by omega⟩⟩
    rw [settle_up _ (by omega) (by rw [busy_at4 h1]; exact decide_eq_false h), h1]
    exact settle_stay _ (by show 5 ≤ 8; decide) (by rw [busy_at5 rfl]; exact decide_eq_true (by show i.pt ≤ i.news; omega))
theorem settle_succ (i : Ins) : settleI (succI i) = succI i := settle_stay _ (by show 0 ≤ 8; decide) (busy_at0 rfl)
/-- what undoing goes on with -/
def backI (j : Ins) : Ins := if 0 < j.pt then { j with st := 7 } else if 0 < j.tk then { j with st := 8 } else Ins.zero j.er
theorem settle_back (j : Ins) (hs : j.st = 7 ∨ (j.st = 8 ∧ j.pt = 0)) : settleI j = backI j := by
  unfold backI
  rcases hs with h | ⟨h, hp⟩
  · by_cases h0 : 0 < j.pt
    · rw [if_pos h0, settle_stay _ (by omega) (by rw [busy_at7 h]; exact decide_eq_true h0)]
      cases j; cases h; rfl
    · rw [if_neg h0, settle_up _ (by omega) (by rw [busy_at7 h]; exact decide_eq_false h0), h]
      by_cases h1 : 0 < j.tk
      · rw [if_pos h1]
        exact settle_stay _ (by show 8 ≤ 8; decide) (by rw [busy_at8 rfl]; exact decide_eq_true h1)
      · rw [if_neg h1]
        exact settle_end _ rfl (by rw [busy_at8 rfl]; exact decide_eq_false h1)
  · rw [if_neg (by omega)]
    by_cases h1 : 0 < j.tk
    · rw [if_pos h1, settle_stay _ (by omega) (by rw [busy_at8 h]; exact decide_eq_true h1)]
      cases j; cases h; rfl
    · rw [if_neg h1]
      exact settle_end _ h (by rw [busy_at8 h]; exact decide_eq_false h1)
/-- the forms of an installer -/
def Shape (i : Ins) : Prop :=
  i.news ≤ 4 ∧ i.tk ≤ 4 ∧ i.pt ≤ 5 ∧ i.sw ≤ 4 ∧ ErV i.er ∧
  ((i.st = 0 ∧ i.fn = .nilFunc) ∨ (i.st = 1 ∧ i.tk < i.news ∧ i.pt = 0 ∧ i.sw = 0 ∧ i.dn = false) ∨ (i.st = 2 ∧ i.tk = i.news ∧ i.pt = 0 ∧ i.sw = 0 ∧ i.dn = false) ∨
   (i.st = 3 ∧ i.fn = .nilFunc ∧ i.tk = i.news ∧ i.pt < i.news ∧ i.sw = 0 ∧ i.dn = false) ∨ (i.st = 4 ∧ i.fn = .nilFunc ∧ i.tk = i.news ∧ i.pt = i.news ∧ i.sw < i.news ∧ i.dn = false) ∨
   (i.st = 5 ∧ i.fn = .nilFunc ∧ i.tk = i.news ∧ i.pt = i.news ∧ i.sw = i.news ∧ i.dn = false) ∨ (i.st = 6 ∧ i.fn = .nilFunc ∧ i.tk = i.news ∧ i.pt = i.news + 1 ∧ i.sw = i.news ∧ i.dn = false) ∨
   (i.st = 7 ∧ i.fn = .nilFunc ∧ 0 < i.pt ∧ i.dn = false) ∨ (i.st = 8 ∧ i.fn = .nilFunc ∧ i.pt = 0 ∧ 0 < i.tk ∧ i.dn = false))
theorem shape_back (j : Ins) (hn : j.news ≤ 4) (ht : j.tk ≤ 4) (hp : j.pt ≤ 5) (hw : j.sw ≤ 4) (he : ErV j.er) (hf : j.fn = .nilFunc) (hd : j.dn = false) : Shape (backI j) := by
  unfold backI
  split
  · next h => exact ⟨hn, ht, hp, hw, he, .inr (.inr (.inr (.inr (.inr (.inr (.inr (.inl ⟨rfl, hf, h, hd⟩)))))))⟩
  · next h =>
    split
    · next h1 => exact ⟨hn, ht, hp, hw, he, .inr (.inr (.inr (.inr (.inr (.inr (.inr (.inr ⟨rfl, hf, by show j.pt = 0; omega, h1, hd⟩)))))))⟩
    · exact ⟨by show 0 ≤ 4; decide, by show 0 ≤ 4; decide, by show 0 ≤ 5; decide, by show 0 ≤ 4; decide, he, .inl ⟨rfl, rfl⟩⟩
theorem back_dn (j : Ins) (hd : j.dn = false) : (backI j).dn = false := by
  unfold backI
  split
  · exact hd
  · split
    · exact hd
    · rfl

open Go.RowKit

/-- undone, for an error -/
def Und (i j : Ins) : Prop := ∃ v, ErV v ∧ j = undoI i v
/-- the records that an installer puts in place -/
def Ins.recs (i : Ins) (d : JbD) (ds : List RecD) (hd : RecD) (q : Nat) : RecD := recsM ds (mkHd hd d.fresh i.pgsL) i.news q
/-- one step, ahead of settling -/
def AStep (l : LimN) (d : JbD) (ds : List RecD) (hd : RecD) (i : Ins) (ps : List Pt) (L : List Pg) (j : Ins) (ps' : List Pt) (L' : List Pg) : Prop :=
  (i.st = 1 ∧ ps' = ps ∧ L' = takeL L ∧ ((takeE L = 0 ∧ j = takeI i (takeN L : Int)) ∨ (takeE L ≠ 0 ∧ Und i j))) ∨
  (i.st = 2 ∧ ps' = putM l.s l.c ps (i.recs d ds hd 0) ∧ L' = L ∧ ∃ rc, ((allocM l.s l.c ps).2.2 = 0 ∧ j = fillI (madeI i rc) (((allocM l.s l.c ps).1 : Int), ((allocM l.s l.c ps).2.1 : Int))) ∨ ((allocM l.s l.c ps).2.2 ≠ 0 ∧ Und (madeI i rc) j)) ∨
  ((i.st = 3 ∨ i.st = 5) ∧ ps' = putM l.s l.c ps (i.recs d ds hd i.pt) ∧ L' = L ∧ (((allocM l.s l.c ps).2.2 = 0 ∧ j = fillI i (((allocM l.s l.c ps).1 : Int), ((allocM l.s l.c ps).2.1 : Int))) ∨ ((allocM l.s l.c ps).2.2 ≠ 0 ∧ Und i j))) ∨
  (i.st = 4 ∧ ps' = ps ∧ L' = swapL L (i.pg i.sw) (0, 0) (i.rf i.sw) ∧ ((swapB L (i.pg i.sw) (0, 0) = true ∧ j = swapI i) ∨ (swapB L (i.pg i.sw) (0, 0) = false ∧ Und i j))) ∨
  (i.st = 6 ∧ ps' = ps ∧ L' = swapL L i.page (i.os, i.og) (i.rf i.sw) ∧ ((swapB L i.page (i.os, i.og) = true ∧ j = succI (swapI i)) ∨ (swapB L i.page (i.os, i.og) = false ∧ Und i j))) ∨
  (i.st = 7 ∧ ps' = freeM l.s ps (i.rf (i.pt - 1)).1 (i.rf (i.pt - 1)).2 ∧ L' = L ∧ j = { i with pt := i.pt - 1 }) ∨
  (i.st = 8 ∧ ps' = ps ∧ L' = giveL L (i.pg (i.tk - 1)) ∧ j = { i with tk := i.tk - 1 })
/-- an installer of a job of the laws', between two steps -/
structure AgI (w : World) (T : Nat → Prop) (b : Nat) (i : Ins) (d : JbD) (ds : List RecD) (hd : RecD) (jb cb cl : Nat) : Prop where
  lies : InsAt w b i
  sh : Shape i
  job : (i.st = 1 ∨ i.st = 2) → i.fn = .func (.func 35) #[] #[.pointer (some ⟨cb, 0, none⟩), .pointer (some ⟨jb, 0, none⟩)] ∧ i.rc = (fun _ => rcZ) ∧ w.heap[jb]? = some (.cells d.cells.toArray 46 (0, 0)) ∧ w.heap[cb]? = some (.cells #[.pointer (some ⟨cl, 0, none⟩)] 53 (0, 0)) ∧ ¬ T jb ∧ ¬ T cb
  recs : (3 ≤ i.st ∧ i.st ≤ 6) → ∀ q, q ≤ i.news → RecL w T (rcLf i.rc q) (i.recs d ds hd q)
theorem AgI.fnok {w : World} {T : Nat → Prop} {b : Nat} {i : Ins} {d : JbD} {ds : List RecD} {hd : RecD} {jb cb cl : Nat} (h : AgI w T b i d ds hd jb cb cl) : FnOk i.fn := by
  obtain ⟨-, -, -, -, -, h9⟩ := h.sh
  rcases h9 with ⟨-, e⟩ | ⟨e, -⟩ | ⟨e, -⟩ | ⟨-, e, -⟩ | ⟨-, e, -⟩ | ⟨-, e, -⟩ | ⟨-, e, -⟩ | ⟨-, e, -⟩ | ⟨-, e, -⟩
  · exact .inl e
  · exact .inr ⟨_, _, _, (h.job (.inl e)).1⟩
  · exact .inr ⟨_, _, _, (h.job (.inr e)).1⟩
  all_goals exact .inl e
/-- undoing, or over -/
theorem AgI.rest {w : World} {T : Nat → Prop} {b : Nat} {j : Ins} {d : JbD} {ds : List RecD} {hd : RecD} {jb cb cl : Nat} (h : InsAt w b j) (hs : Shape j) (h0 : j.st = 0 ∨ j.st = 7 ∨ j.st = 8) : AgI w T b j d ds hd jb cb cl :=
  ⟨h, hs, fun e => by omega, fun e => by omega⟩
theorem back_st (j : Ins) : (backI j).st = 0 ∨ (backI j).st = 7 ∨ (backI j).st = 8 := by
  unfold backI
  split
  · exact .inr (.inl rfl)
  · split
    · exact .inr (.inr rfl)
    · exact .inl rfl
theorem AgI.back {w : World} {T : Nat → Prop} {b : Nat} {j : Ins} {d : JbD} {ds : List RecD} {hd : RecD} {jb cb cl : Nat} (h : InsAt w b (settleI j)) (hs : j.st = 7 ∨ (j.st = 8 ∧ j.pt = 0)) (hn : j.news ≤ 4) (ht : j.tk ≤ 4) (hp : j.pt ≤ 5) (hw : j.sw ≤ 4) (he : ErV j.er) (hf : j.fn = .nilFunc) (hd' : j.dn = false) : AgI w T b (settleI j) d ds hd jb cb cl := by
  rw [settle_back j hs] at h ⊢
  exact AgI.rest h (shape_back j hn ht hp hw he hf hd') (back_st j)
theorem AgI.und {w : World} {T : Nat → Prop} {b : Nat} {i j : Ins} {d : JbD} {ds : List RecD} {hd : RecD} {jb cb cl : Nat} (h : InsAt w b (settleI j)) (hu : Und i j) (ht : i.tk ≤ 4) (hp : i.pt ≤ 5) : AgI w T b (settleI j) d ds hd jb cb cl := by
  obtain ⟨v, hv, rfl⟩ := hu
  exact AgI.back h (.inl rfl) (by show 0 ≤ 4; decide) ht hp (by show 0 ≤ 4; decide) hv rfl rfl
end Go.Proofs.Ytaiaaljahnackaa
