/- One step of an installer of layer 12's laws: the contract. -/
import Derived.Test.YtaiaaljahnackaaNsAny
namespace Go.Proofs.Ytaiaaljahnackaa
open Go.RowKit

theorem hF_job : ∀ args w, (callFunc 35 args).run Try.prog w = .ok (.enter 35 args) w := fun args w => by simp [go_sem]
/-- what holds around an installer -/
structure AgW (w0 w : World) (T : Nat → Prop) (b : Nat) (d : JbD) (bs : List RcL) (ds : List RecD) (hd : RecD) (cl : Nat) (m : MB) (S : Nat → Prop) : Prop where
  jobR : JobR w0 d bs ds hd
  below : Below w0.heap.size w0 w
  ctr : IntAt w cl
  tin : ∀ k, T k → w0.heap.size ≤ k ∧ k < w.heap.size
  tm : ∀ k, MS m S k → T k
  tb : T b
  tc : T cl
  nb : ¬ MS m S b
  nc : ¬ MS m S cl
  ne : b ≠ cl
/-- behind a step -/
def AgQ (w : World) (T : Nat → Prop) (b : Nat) (i : Ins) (d : JbD) (ds : List RecD) (hd : RecD) (jb cb cl : Nat) (m : MB) (S : Nat → Prop) (l : LimN) (k : Int) (ps : List Pt) (L : List Pg) (c : Ck) (ev : Ending) (w' : World) : Prop :=
  ∃ S' j ps' L', ev = .returned (.bool (((settleI j).st : Int) == 0)) ∧ MemAt w' m S' l (inc k) ps' L' c ∧ AStep l d ds hd i ps L j ps' L' ∧ AgI w' (fun x => T x ∨ MS m S' x) b (settleI j) d ds hd jb cb cl ∧ Kept (fun x => US m S b x ∨ x = cl) w w' ∧ (∀ x, MS m S' x → MS m S x ∨ w.heap.size ≤ x) ∧ IntAt w' cl
/-- a job's closure, kept over a step -/
theorem AgI.job_keep {w w' : World} {T : Nat → Prop} {b : Nat} {i : Ins} {d : JbD} {ds : List RecD} {hd : RecD} {jb cb cl : Nat} {m : MB} {S S' : Nat → Prop} (h : AgI w T b i d ds hd jb cb cl) (hs : i.st = 1 ∨ i.st = 2) (hk : Kept (US m S b) w w') (hm : ∀ x, MS m S x → T x) (hb : T b) (hS : ∀ x, MS m S' x → MS m S x ∨ w.heap.size ≤ x) :
    w'.heap[jb]? = some (.cells d.cells.toArray 46 (0, 0)) ∧ w'.heap[cb]? = some (.cells #[.pointer (some ⟨cl, 0, none⟩)] 53 (0, 0)) ∧ ¬ (T jb ∨ MS m S' jb) ∧ ¬ (T cb ∨ MS m S' cb) := by
  obtain ⟨-, -, h1, h2, h3, h4⟩ := h.job hs
  have hj := (Array.getElem?_eq_some_iff.1 h1).1
  have hc := (Array.getElem?_eq_some_iff.1 h2).1
  refine ⟨(hk.block jb hj (fun hu => hu.elim (fun q => h3 (hm _ q)) (fun e => h3 (e ▸ hb)))).trans h1, (hk.block cb hc (fun hu => hu.elim (fun q => h4 (hm _ q)) (fun e => h4 (e ▸ hb)))).trans h2, fun q => q.elim h3 (fun q => (hS _ q).elim (fun q => h3 (hm _ q)) (fun q => by omega)), fun q => q.elim h4 (fun q => (hS _ q).elim (fun q => h4 (hm _ q)) (fun q => by omega))⟩
/-- its records, kept over a step -/
theorem AgI.recs_keep {w w' : World} {T : Nat → Prop} {b : Nat} {i : Ins} {d : JbD} {ds : List RecD} {hd : RecD} {jb cb cl : Nat} {m : MB} {S S' : Nat → Prop} (h : AgI w T b i d ds hd jb cb cl) (hs : 3 ≤ i.st ∧ i.st ≤ 6) (hk : Kept (US m S b) w w') (hm : ∀ x, MS m S x → T x) (hb : T b) (hS : ∀ x, MS m S' x → MS m S x ∨ w.heap.size ≤ x) :
    ∀ q, q ≤ i.news → RecL w' (fun x => T x ∨ MS m S' x) (rcLf i.rc q) (i.recs d ds hd q) := fun q hq =>
  (h.recs hs q hq).grow hk (fun x hu => hu.elim (hm x) (fun e => e ▸ hb)) (fun x hx => hx.elim .inl (fun hx => (hS x hx).imp (hm x) id))
theorem us_nox {m : MB} {S : Nat → Prop} {b : Nat} {w w' : World} (h : Kept (fun x => US m S b x ∨ NoX x) w w') : Kept (US m S b) w w' := h.wide fun _ _ h => h.elim id (fun h => h.elim)
theorem ag1 (w0 w : World) (T : Nat → Prop) (b : Nat) (i : Ins) (d : JbD) (bs : List RcL) (ds : List RecD) (hd : RecD) (jb cb cl : Nat) (m : MB) (S : Nat → Prop) (l : LimN) (k : Int) (ps : List Pt) (L : List Pg) (c : Ck) (h : AgI w T b i d ds hd jb cb cl) (hW : AgW w0 w T b d bs ds hd cl m S) (hM : MemAt w m S l k ps L c) (hs : i.st = 1) :
    Calls Try.prog 12 #[.pointer (some ⟨b, 0, none⟩), .pointer (some ⟨m.mb, 0, none⟩)] w (AgQ w T b i d ds hd jb cb cl m S l k ps L c) := by
  obtain ⟨hn4, ht4, hp5, hw4, her, hsh⟩ := h.sh
  obtain ⟨g1, g2, g3, g4⟩ : i.tk < i.news ∧ i.pt = 0 ∧ i.sw = 0 ∧ i.dn = false := by
    rcases hsh with g | g | g | g | g | g | g | g | g <;> first | (have := g.1; omega) | exact g.2
  refine (iStep1 w b i m S l k ps L c h.lies hM hW.nb h.fnok her hs (by omega)).mono ?_
  rintro ev w' ⟨S', j, rfl, hI, hM', hk, hS, hj⟩
  have hk2 := us_nox hk
  have hk3 : Kept (fun x => US m S b x ∨ x = cl) w w' := hk2.wide fun _ _ h => .inl h
  have hi3 : IntAt w' cl := hW.ctr.kept hk2 (fun h => h.elim hW.nc (fun e => hW.ne e.symm))
  refine ⟨S', j, ps, takeL L, rfl, hM', .inl ⟨hs, rfl, rfl, hj.imp id (fun ⟨h1, v, h2, h3⟩ => ⟨h1, v, h2.erv, h3⟩)⟩, ?_, hk3, hS, hi3⟩
  rcases hj with ⟨-, rfl⟩ | ⟨-, v, hv, rfl⟩
  · obtain ⟨e1, e2, -⟩ := h.job (.inl hs)
    obtain ⟨s, hse, hs2⟩ := settle_take i (takeN L : Int) hs g1 (by unfold Ins.hasF; rw [e1])
    rw [hse] at hI ⊢
    have hj := h.job_keep (m := m) (.inl hs) hk2 hW.tm hW.tb hS
    refine ⟨hI, ⟨hn4, by show i.tk + 1 ≤ 4; omega, hp5, hw4, her, ?_⟩, fun _ => ⟨e1, e2, hj⟩, fun e => ?_⟩
    · rcases hs2 with ⟨q1, q2⟩ | ⟨q1, q2⟩
      · exact .inr (.inl ⟨q1, q2, g2, g3, g4⟩)
      · exact .inr (.inr (.inl ⟨q1, q2, g2, g3, g4⟩))
    · have h1 : 3 ≤ s := e.1
      rcases hs2 with ⟨q1, -⟩ | ⟨q1, -⟩ <;> omega
  · exact AgI.und hI ⟨v, hv.erv, rfl⟩ ht4 hp5
theorem ag3 (w0 w : World) (T : Nat → Prop) (b : Nat) (i : Ins) (d : JbD) (bs : List RcL) (ds : List RecD) (hd : RecD) (jb cb cl : Nat) (m : MB) (S : Nat → Prop) (l : LimN) (k : Int) (ps : List Pt) (L : List Pg) (c : Ck) (h : AgI w T b i d ds hd jb cb cl) (hW : AgW w0 w T b d bs ds hd cl m S) (hM : MemAt w m S l k ps L c) (hs : i.st = 3) :
    Calls Try.prog 12 #[.pointer (some ⟨b, 0, none⟩), .pointer (some ⟨m.mb, 0, none⟩)] w (AgQ w T b i d ds hd jb cb cl m S l k ps L c) := by
  obtain ⟨hn4, ht4, hp5, hw4, her, hsh⟩ := h.sh
  obtain ⟨g0, g1, g2, g3, g4⟩ : i.fn = .nilFunc ∧ i.tk = i.news ∧ i.pt < i.news ∧ i.sw = 0 ∧ i.dn = false := by
    rcases hsh with g | g | g | g | g | g | g | g | g <;> first | (have := g.1; omega) | exact g.2
  have hr := h.recs ⟨by omega, by omega⟩ i.pt (by omega)
  refine (iStep3 w b i m S l k ps L c h.lies hM hW.nb h.fnok her hs (by omega) _ (hr.inn hW.tm)).mono ?_
  rintro ev w' ⟨S', j, rfl, hI, hM', hk, hS, hj⟩
  have hk2 := us_nox hk
  have hk3 : Kept (fun x => US m S b x ∨ x = cl) w w' := hk2.wide fun _ _ h => .inl h
  have hi3 : IntAt w' cl := hW.ctr.kept hk2 (fun h => h.elim hW.nc (fun e => hW.ne e.symm))
  refine ⟨S', j, _, L, rfl, hM', .inr (.inr (.inl ⟨.inl hs, rfl, rfl, hj.imp id (fun ⟨h1, v, h2, h3⟩ => ⟨h1, v, h2.erv, h3⟩)⟩)), ?_, hk3, hS, hi3⟩
  rcases hj with ⟨-, rfl⟩ | ⟨-, v, hv, rfl⟩
  · have hj := h.recs_keep (m := m) ⟨by omega, by omega⟩ hk2 hW.tm hW.tb hS
    obtain ⟨s, hse, hs2⟩ := settle_fill3 i (((allocM l.s l.c ps).1 : Int), ((allocM l.s l.c ps).2.1 : Int)) hs g2 g3
    rw [hse] at hI ⊢
    refine ⟨hI, ⟨hn4, ht4, by show i.pt + 1 ≤ 5; omega, hw4, her, ?_⟩, fun e => ?_, fun _ => hj⟩
    · rcases hs2 with ⟨q1, q2⟩ | ⟨q1, q2⟩
      · exact .inr (.inr (.inr (.inl ⟨q1, g0, g1, q2, g3, g4⟩)))
      · exact .inr (.inr (.inr (.inr (.inl ⟨q1, g0, g1, q2, by show i.sw < i.news; omega, g4⟩))))
    · have h1 : s = 1 ∨ s = 2 := e
      rcases hs2 with ⟨q1, -⟩ | ⟨q1, -⟩ <;> omega
  · exact AgI.und hI ⟨v, hv.erv, rfl⟩ ht4 hp5
theorem ag5 (w0 w : World) (T : Nat → Prop) (b : Nat) (i : Ins) (d : JbD) (bs : List RcL) (ds : List RecD) (hd : RecD) (jb cb cl : Nat) (m : MB) (S : Nat → Prop) (l : LimN) (k : Int) (ps : List Pt) (L : List Pg) (c : Ck) (h : AgI w T b i d ds hd jb cb cl) (hW : AgW w0 w T b d bs ds hd cl m S) (hM : MemAt w m S l k ps L c) (hs : i.st = 5) :
    Calls Try.prog 12 #[.pointer (some ⟨b, 0, none⟩), .pointer (some ⟨m.mb, 0, none⟩)] w (AgQ w T b i d ds hd jb cb cl m S l k ps L c) := by
  obtain ⟨hn4, ht4, hp5, hw4, her, hsh⟩ := h.sh
  obtain ⟨g0, g1, g2, g3, g4⟩ : i.fn = .nilFunc ∧ i.tk = i.news ∧ i.pt = i.news ∧ i.sw = i.news ∧ i.dn = false := by
    rcases hsh with g | g | g | g | g | g | g | g | g <;> first | (have := g.1; omega) | exact g.2
  have hr := h.recs ⟨by omega, by omega⟩ i.pt (by omega)
  refine (iStep5 w b i m S l k ps L c h.lies hM hW.nb h.fnok her hs (by omega) _ (hr.inn hW.tm)).mono ?_
  rintro ev w' ⟨S', j, rfl, hI, hM', hk, hS, hj⟩
  have hk2 := us_nox hk
  have hk3 : Kept (fun x => US m S b x ∨ x = cl) w w' := hk2.wide fun _ _ h => .inl h
  have hi3 : IntAt w' cl := hW.ctr.kept hk2 (fun h => h.elim hW.nc (fun e => hW.ne e.symm))
  refine ⟨S', j, _, L, rfl, hM', .inr (.inr (.inl ⟨.inr hs, rfl, rfl, hj.imp id (fun ⟨h1, v, h2, h3⟩ => ⟨h1, v, h2.erv, h3⟩)⟩)), ?_, hk3, hS, hi3⟩
  rcases hj with ⟨-, rfl⟩ | ⟨-, v, hv, rfl⟩
  · have hj := h.recs_keep (m := m) ⟨by omega, by omega⟩ hk2 hW.tm hW.tb hS
    rw [settle_fill5 i _ hs g2] at hI ⊢
    refine ⟨hI, ⟨hn4, ht4, by show i.pt + 1 ≤ 5; omega, hw4, her, .inr (.inr (.inr (.inr (.inr (.inr (.inl ⟨rfl, g0, g1, by show i.pt + 1 = i.news + 1; omega, g3, g4⟩))))))⟩, fun e => ?_, fun _ => hj⟩
    have h1 : (6 : Nat) = 1 ∨ (6 : Nat) = 2 := e
    omega
  · exact AgI.und hI ⟨v, hv.erv, rfl⟩ ht4 hp5
theorem ag4 (w0 w : World) (T : Nat → Prop) (b : Nat) (i : Ins) (d : JbD) (bs : List RcL) (ds : List RecD) (hd : RecD) (jb cb cl : Nat) (m : MB) (S : Nat → Prop) (l : LimN) (k : Int) (ps : List Pt) (L : List Pg) (c : Ck) (h : AgI w T b i d ds hd jb cb cl) (hW : AgW w0 w T b d bs ds hd cl m S) (hM : MemAt w m S l k ps L c) (hs : i.st = 4) :
    Calls Try.prog 12 #[.pointer (some ⟨b, 0, none⟩), .pointer (some ⟨m.mb, 0, none⟩)] w (AgQ w T b i d ds hd jb cb cl m S l k ps L c) := by
  obtain ⟨hn4, ht4, hp5, hw4, her, hsh⟩ := h.sh
  obtain ⟨g0, g1, g2, g3, g4⟩ : i.fn = .nilFunc ∧ i.tk = i.news ∧ i.pt = i.news ∧ i.sw < i.news ∧ i.dn = false := by
    rcases hsh with g | g | g | g | g | g | g | g | g <;> first | (have := g.1; omega) | exact g.2
  refine (iStep4 w b i m S l k ps L c h.lies hM hW.nb h.fnok her hs (by omega)).mono ?_
  rintro ev w' ⟨S', j, rfl, hI, hM', hk, hS, hj⟩
  have hk2 := us_nox hk
  have hk3 : Kept (fun x => US m S b x ∨ x = cl) w w' := hk2.wide fun _ _ h => .inl h
  have hi3 : IntAt w' cl := hW.ctr.kept hk2 (fun h => h.elim hW.nc (fun e => hW.ne e.symm))
  refine ⟨S', j, ps, _, rfl, hM', .inr (.inr (.inr (.inl ⟨hs, rfl, rfl, hj.imp id (fun ⟨h1, v, h2, h3⟩ => ⟨h1, v, h2.erv, h3⟩)⟩))), ?_, hk3, hS, hi3⟩
  rcases hj with ⟨-, rfl⟩ | ⟨-, v, hv, rfl⟩
  · have hj := h.recs_keep (m := m) ⟨by omega, by omega⟩ hk2 hW.tm hW.tb hS
    obtain ⟨s, hse, hs2⟩ := settle_swap4 i hs g3 g2
    rw [hse] at hI ⊢
    refine ⟨hI, ⟨hn4, ht4, hp5, by show i.sw + 1 ≤ 4; omega, her, ?_⟩, fun e => ?_, fun _ => hj⟩
    · rcases hs2 with ⟨q1, q2⟩ | ⟨q1, q2⟩
      · exact .inr (.inr (.inr (.inr (.inl ⟨q1, g0, g1, g2, q2, g4⟩))))
      · exact .inr (.inr (.inr (.inr (.inr (.inl ⟨q1, g0, g1, g2, q2, g4⟩)))))
    · have h1 : s = 1 ∨ s = 2 := e
      rcases hs2 with ⟨q1, -⟩ | ⟨q1, -⟩ <;> omega
  · exact AgI.und hI ⟨v, hv.erv, rfl⟩ ht4 hp5
theorem ag6 (w0 w : World) (T : Nat → Prop) (b : Nat) (i : Ins) (d : JbD) (bs : List RcL) (ds : List RecD) (hd : RecD) (jb cb cl : Nat) (m : MB) (S : Nat → Prop) (l : LimN) (k : Int) (ps : List Pt) (L : List Pg) (c : Ck) (h : AgI w T b i d ds hd jb cb cl) (hW : AgW w0 w T b d bs ds hd cl m S) (hM : MemAt w m S l k ps L c) (hs : i.st = 6) :
    Calls Try.prog 12 #[.pointer (some ⟨b, 0, none⟩), .pointer (some ⟨m.mb, 0, none⟩)] w (AgQ w T b i d ds hd jb cb cl m S l k ps L c) := by
  obtain ⟨hn4, ht4, hp5, hw4, her, hsh⟩ := h.sh
  obtain ⟨g0, g1, g2, g3, g4⟩ : i.fn = .nilFunc ∧ i.tk = i.news ∧ i.pt = i.news + 1 ∧ i.sw = i.news ∧ i.dn = false := by
    rcases hsh with g | g | g | g | g | g | g | g | g <;> first | (have := g.1; omega) | exact g.2
  refine (iStep6 w b i m S l k ps L c h.lies hM hW.nb h.fnok her hs (by omega)).mono ?_
  rintro ev w' ⟨S', j, rfl, hI, hM', hk, hS, hj⟩
  have hk2 := us_nox hk
  have hk3 : Kept (fun x => US m S b x ∨ x = cl) w w' := hk2.wide fun _ _ h => .inl h
  have hi3 : IntAt w' cl := hW.ctr.kept hk2 (fun h => h.elim hW.nc (fun e => hW.ne e.symm))
  refine ⟨S', j, ps, _, rfl, hM', .inr (.inr (.inr (.inr (.inl ⟨hs, rfl, rfl, hj.imp id (fun ⟨h1, v, h2, h3⟩ => ⟨h1, v, h2.erv, h3⟩)⟩)))), ?_, hk3, hS, hi3⟩
  rcases hj with ⟨-, rfl⟩ | ⟨-, v, hv, rfl⟩
  · rw [settle_succ] at hI ⊢
    exact AgI.rest hI ⟨by show 0 ≤ 4; decide, ht4, hp5, by show 0 ≤ 4; decide, .inl rfl, .inl ⟨rfl, rfl⟩⟩ (.inl rfl)
  · exact AgI.und hI ⟨v, hv.erv, rfl⟩ ht4 hp5
theorem ag7 (w0 w : World) (T : Nat → Prop) (b : Nat) (i : Ins) (d : JbD) (bs : List RcL) (ds : List RecD) (hd : RecD) (jb cb cl : Nat) (m : MB) (S : Nat → Prop) (l : LimN) (k : Int) (ps : List Pt) (L : List Pg) (c : Ck) (h : AgI w T b i d ds hd jb cb cl) (hW : AgW w0 w T b d bs ds hd cl m S) (hM : MemAt w m S l k ps L c) (hs : i.st = 7) :
    Calls Try.prog 12 #[.pointer (some ⟨b, 0, none⟩), .pointer (some ⟨m.mb, 0, none⟩)] w (AgQ w T b i d ds hd jb cb cl m S l k ps L c) := by
  obtain ⟨hn4, ht4, hp5, hw4, her, hsh⟩ := h.sh
  obtain ⟨g0, g1, g2⟩ : i.fn = .nilFunc ∧ 0 < i.pt ∧ i.dn = false := by
    rcases hsh with g | g | g | g | g | g | g | g | g <;> first | (have := g.1; omega) | exact g.2
  refine (iStep7 w b i m S l k ps L c h.lies hM hW.nb h.fnok her hs g1 hp5).mono ?_
  rintro ev w' ⟨S', j, rfl, hI, hM', hk, hS, rfl⟩
  have hk2 := us_nox hk
  have hk3 : Kept (fun x => US m S b x ∨ x = cl) w w' := hk2.wide fun _ _ h => .inl h
  have hi3 : IntAt w' cl := hW.ctr.kept hk2 (fun h => h.elim hW.nc (fun e => hW.ne e.symm))
  exact ⟨S', _, _, L, rfl, hM', .inr (.inr (.inr (.inr (.inr (.inl ⟨hs, rfl, rfl, rfl⟩))))), AgI.back hI (.inl hs) hn4 ht4 (by show i.pt - 1 ≤ 5; omega) hw4 her g0 g2, hk3, hS, hi3⟩
theorem ag8 (w0 w : World) (T : Nat → Prop) (b : Nat) (i : Ins) (d : JbD) (bs : List RcL) (ds : List RecD) (hd : RecD) (jb cb cl : Nat) (m : MB) (S : Nat → Prop) (l : LimN) (k : Int) (ps : List Pt) (L : List Pg) (c : Ck) (h : AgI w T b i d ds hd jb cb cl) (hW : AgW w0 w T b d bs ds hd cl m S) (hM : MemAt w m S l k ps L c) (hs : i.st = 8) :
    Calls Try.prog 12 #[.pointer (some ⟨b, 0, none⟩), .pointer (some ⟨m.mb, 0, none⟩)] w (AgQ w T b i d ds hd jb cb cl m S l k ps L c) := by
  obtain ⟨hn4, ht4, hp5, hw4, her, hsh⟩ := h.sh
  obtain ⟨g0, g1, g2, g3⟩ : i.fn = .nilFunc ∧ i.pt = 0 ∧ 0 < i.tk ∧ i.dn = false := by
    rcases hsh with g | g | g | g | g | g | g | g | g <;> first | (have := g.1; omega) | exact g.2
  refine (iStep8 w b i m S l k ps L c h.lies hM hW.nb h.fnok her hs g2 ht4).mono ?_
  rintro ev w' ⟨S', j, rfl, hI, hM', hk, hS, rfl⟩
  have hk2 := us_nox hk
  have hk3 : Kept (fun x => US m S b x ∨ x = cl) w w' := hk2.wide fun _ _ h => .inl h
  have hi3 : IntAt w' cl := hW.ctr.kept hk2 (fun h => h.elim hW.nc (fun e => hW.ne e.symm))
  exact ⟨S', _, ps, _, rfl, hM', .inr (.inr (.inr (.inr (.inr (.inr ⟨hs, rfl, rfl, rfl⟩))))), AgI.back hI (.inr ⟨hs, g1⟩) hn4 (by show i.tk - 1 ≤ 4; omega) hp5 hw4 her g0 g3, hk3, hS, hi3⟩
theorem ag2a (w0 w : World) (T : Nat → Prop) (b : Nat) (i : Ins) (d : JbD) (bs : List RcL) (ds : List RecD) (hd : RecD) (jb cb cl : Nat) (m : MB) (S : Nat → Prop) (l : LimN) (k : Int) (ps : List Pt) (L : List Pg) (c : Ck) (h : AgI w T b i d ds hd jb cb cl) (hW : AgW w0 w T b d bs ds hd cl m S) (hM : MemAt w m S l k ps L c) (hs : i.st = 2) (hz : i.news = 0) :
    Calls Try.prog 12 #[.pointer (some ⟨b, 0, none⟩), .pointer (some ⟨m.mb, 0, none⟩)] w (AgQ w T b i d ds hd jb cb cl m S l k ps L c) := by
  obtain ⟨hn4, ht4, hp5, hw4, her, hsh⟩ := h.sh
  obtain ⟨g1, g2, g3, g4⟩ : i.tk = i.news ∧ i.pt = 0 ∧ i.sw = 0 ∧ i.dn = false := by
    rcases hsh with g | g | g | g | g | g | g | g | g <;> first | (have := g.1; omega) | exact g.2
  obtain ⟨e1, e2, e3, e4, e5, e6⟩ := h.job (.inr hs)
  have hlj := (Array.getElem?_eq_some_iff.1 e3).1
  have hlc := (Array.getElem?_eq_some_iff.1 e4).1
  have hlt := hW.ctr.lt
  have htb := hW.tin b hW.tb
  have htc := hW.tin cl hW.tc
  refine (iStep2a 35 hF_job #[.pointer (some ⟨cb, 0, none⟩), .pointer (some ⟨jb, 0, none⟩)] w b i m S l k ps L c h.lies hM hW.nb h.fnok her (fun x => x = cl) (fun x => x = cl) T hW.ne (fun x hx e => hW.nc (e ▸ hx)) ds (mkHd hd d.fresh i.pgsL) hs e1 e2 hn4 ht4 g2 g3 hz (fun x hx => (hW.tin x hx).2) hW.tb hW.tm (fun x e => e ▸ hW.tc) hW.ne (fun x hx e => hW.nc (e ▸ hx)) (fun w1 pv hk ho => ?_)).mono ?_
  · obtain ⟨n, hcl⟩ := hW.ctr.kept hk (fun e => hW.ne e.symm)
    exact job1_any w0 w1 d bs ds hd jb cb cl w.heap.size n pv i.pgsL hW.jobR (hW.below.trans (hk.below (n := w0.heap.size) (fun x e => e ▸ htb.1) hW.below.size))
      ((hk.block jb hlj (fun e => e5 (e ▸ hW.tb))).trans e3) ((hk.block cb hlc (fun e => e6 (e ▸ hW.tb))).trans e4) hcl ho (by simp [Ins.pgsL]; omega) hW.below.size htc.1 (fun e => by have := (ho.bounds cl e).1; omega)
  rintro ev w' ⟨S', rc', j, rfl, hI, hM', hk, hS, hR, hZ, hj⟩
  refine ⟨S', j, _, L, rfl, hM', .inr (.inl ⟨hs, rfl, rfl, rc', hj.imp id (fun ⟨h1, v, h2, h3⟩ => ⟨h1, v, h2.erv, h3⟩)⟩), ?_, hk, hS, hZ cl rfl hW.ctr⟩
  rcases hj with ⟨-, rfl⟩ | ⟨-, v, hv, rfl⟩
  · have hst : (madeI i rc').st = 5 := if_pos hz
    rw [settle_fill5 (madeI i rc') _ hst (by show i.pt = i.news; omega)] at hI ⊢
    refine ⟨hI, ⟨hn4, ht4, by show i.pt + 1 ≤ 5; omega, hw4, her, .inr (.inr (.inr (.inr (.inr (.inr (.inl ⟨rfl, rfl, g1, by show i.pt + 1 = i.news + 1; omega, by show i.sw = i.news; omega, g4⟩))))))⟩, fun e => ?_, fun _ => hR⟩
    have h1 : (6 : Nat) = 1 ∨ (6 : Nat) = 2 := e
    omega
  · exact AgI.und hI ⟨v, hv.erv, rfl⟩ ht4 (by show i.pt ≤ 5; omega)
theorem ag2b (w0 w : World) (T : Nat → Prop) (b : Nat) (i : Ins) (d : JbD) (bs : List RcL) (ds : List RecD) (hd : RecD) (jb cb cl : Nat) (m : MB) (S : Nat → Prop) (l : LimN) (k : Int) (ps : List Pt) (L : List Pg) (c : Ck) (h : AgI w T b i d ds hd jb cb cl) (hW : AgW w0 w T b d bs ds hd cl m S) (hM : MemAt w m S l k ps L c) (hs : i.st = 2) (hz : 0 < i.news) :
    Calls Try.prog 12 #[.pointer (some ⟨b, 0, none⟩), .pointer (some ⟨m.mb, 0, none⟩)] w (AgQ w T b i d ds hd jb cb cl m S l k ps L c) := by
  obtain ⟨hn4, ht4, hp5, hw4, her, hsh⟩ := h.sh
  obtain ⟨g1, g2, g3, g4⟩ : i.tk = i.news ∧ i.pt = 0 ∧ i.sw = 0 ∧ i.dn = false := by
    rcases hsh with g | g | g | g | g | g | g | g | g <;> first | (have := g.1; omega) | exact g.2
  obtain ⟨e1, e2, e3, e4, e5, e6⟩ := h.job (.inr hs)
  have hlj := (Array.getElem?_eq_some_iff.1 e3).1
  have hlc := (Array.getElem?_eq_some_iff.1 e4).1
  have hlt := hW.ctr.lt
  have htb := hW.tin b hW.tb
  have htc := hW.tin cl hW.tc
  refine (iStep2b 35 hF_job #[.pointer (some ⟨cb, 0, none⟩), .pointer (some ⟨jb, 0, none⟩)] w b i m S l k ps L c h.lies hM hW.nb h.fnok her (fun x => x = cl) (fun x => x = cl) T hW.ne (fun x hx e => hW.nc (e ▸ hx)) ds (mkHd hd d.fresh i.pgsL) hs e1 e2 hn4 ht4 g2 g3 hz (fun x hx => (hW.tin x hx).2) hW.tb hW.tm (fun x e => e ▸ hW.tc) hW.ne (fun x hx e => hW.nc (e ▸ hx)) (fun w1 pv hk ho => ?_)).mono ?_
  · obtain ⟨n, hcl⟩ := hW.ctr.kept hk (fun e => hW.ne e.symm)
    exact job1_any w0 w1 d bs ds hd jb cb cl w.heap.size n pv i.pgsL hW.jobR (hW.below.trans (hk.below (n := w0.heap.size) (fun x e => e ▸ htb.1) hW.below.size))
      ((hk.block jb hlj (fun e => e5 (e ▸ hW.tb))).trans e3) ((hk.block cb hlc (fun e => e6 (e ▸ hW.tb))).trans e4) hcl ho (by simp [Ins.pgsL]; omega) hW.below.size htc.1 (fun e => by have := (ho.bounds cl e).1; omega)
  rintro ev w' ⟨S', rc', j, rfl, hI, hM', hk, hS, hR, hZ, hj⟩
  refine ⟨S', j, _, L, rfl, hM', .inr (.inl ⟨hs, rfl, rfl, rc', hj.imp id (fun ⟨h1, v, h2, h3⟩ => ⟨h1, v, h2.erv, h3⟩)⟩), ?_, hk, hS, hZ cl rfl hW.ctr⟩
  rcases hj with ⟨-, rfl⟩ | ⟨-, v, hv, rfl⟩
  · have hst : (madeI i rc').st = 3 := if_neg (by omega)
    obtain ⟨s, hse, hs2⟩ := settle_fill3 (madeI i rc') (((allocM l.s l.c ps).1 : Int), ((allocM l.s l.c ps).2.1 : Int)) hst (by show i.pt < i.news; omega) g3
    rw [hse] at hI ⊢
    refine ⟨hI, ⟨hn4, ht4, by show i.pt + 1 ≤ 5; omega, hw4, her, ?_⟩, fun e => ?_, fun _ => hR⟩
    · rcases hs2 with ⟨q1, q2⟩ | ⟨q1, q2⟩
      · exact .inr (.inr (.inr (.inl ⟨q1, rfl, g1, q2, g3, g4⟩)))
      · exact .inr (.inr (.inr (.inr (.inl ⟨q1, rfl, g1, q2, by show i.sw < i.news; omega, g4⟩))))
    · have h1 : s = 1 ∨ s = 2 := e
      rcases hs2 with ⟨q1, -⟩ | ⟨q1, -⟩ <;> omega
  · exact AgI.und hI ⟨v, hv.erv, rfl⟩ ht4 (by show i.pt ≤ 5; omega)
theorem ag_step (w0 w : World) (T : Nat → Prop) (b : Nat) (i : Ins) (d : JbD) (bs : List RcL) (ds : List RecD) (hd : RecD) (jb cb cl : Nat) (m : MB) (S : Nat → Prop) (l : LimN) (k : Int) (ps : List Pt) (L : List Pg) (c : Ck) (h : AgI w T b i d ds hd jb cb cl) (hW : AgW w0 w T b d bs ds hd cl m S) (hM : MemAt w m S l k ps L c) (hs : i.st ≠ 0) :
    Calls Try.prog 12 #[.pointer (some ⟨b, 0, none⟩), .pointer (some ⟨m.mb, 0, none⟩)] w (AgQ w T b i d ds hd jb cb cl m S l k ps L c) := by
  have h9 := h.sh.2.2.2.2.2
  rcases h9 with g | g | g | g | g | g | g | g | g
  · exact absurd g.1 hs
  · exact ag1 w0 w T b i d bs ds hd jb cb cl m S l k ps L c h hW hM g.1
  · by_cases hz : i.news = 0
    · exact ag2a w0 w T b i d bs ds hd jb cb cl m S l k ps L c h hW hM g.1 hz
    · exact ag2b w0 w T b i d bs ds hd jb cb cl m S l k ps L c h hW hM g.1 (by omega)
  · exact ag3 w0 w T b i d bs ds hd jb cb cl m S l k ps L c h hW hM g.1
  · exact ag4 w0 w T b i d bs ds hd jb cb cl m S l k ps L c h hW hM g.1
  · exact ag5 w0 w T b i d bs ds hd jb cb cl m S l k ps L c h hW hM g.1
  · exact ag6 w0 w T b i d bs ds hd jb cb cl m S l k ps L c h hW hM g.1
  · exact ag7 w0 w T b i d bs ds hd jb cb cl m S l k ps L c h hW hM g.1
  · exact ag8 w0 w T b i d bs ds hd jb cb cl m S l k ps L c h hW hM g.1
end Go.Proofs.Ytaiaaljahnackaa
