/- Several installers of layer 12's laws, and the list of them. -/
import Derived.Test.YtaiaaljahnackaaNsCrew
import Derived.Test.YtaiaaljahnackaaEpLies
namespace Go.Proofs.Ytaiaaljahnackaa
open Go.RowKit

/-- where an installer and the memory are at the start -/
theorem RunAt.start {w0 w : World} {T : Nat → Prop} {b : Nat} {i : Ins} {d : JbD} {bs : List RcL} {ds : List RecD} {hd : RecD} {jb cb cl : Nat} {m : MB} {S : Nat → Prop} {l : LimN} {k : Int} {ps : List Pt} {L : List Pg} {c : Ck} (h : AgI w T b i d ds hd jb cb cl) (hW : AgW w0 w T b d bs ds hd cl m S) (hM : MemAt w m S l k ps L c) : RunAt w0 w T b i d bs ds hd jb cb cl m S l ps L c i w :=
  ⟨S, k, ps, L, .none, hM, h.subT (fun x q => q.elim id (hW.tm x)), ⟨hW.jobR, hW.below, hW.ctr, fun x q => hW.tin x (q.elim id (hW.tm x)), fun x q => .inr q, .inl hW.tb, .inl hW.tc, hW.nb, hW.nc, hW.ne⟩, Kept.refl _ _, fun _ q => .inl q⟩
/-- behind a step of one of several -/
def StepQ (w0 w : World) (T : Nat → Prop) (b : Nat) (i : Ins) (d : JbD) (bs : List RcL) (ds : List RecD) (hd : RecD) (jb cb cl : Nat) (m : MB) (S : Nat → Prop) (l : LimN) (ps : List Pt) (L : List Pg) (c : Ck) (ev : Ending) (w' : World) : Prop := ∃ (v : Bool) (i' : Ins), ev = .returned (.bool v) ∧ RunAt w0 w T b i d bs ds hd jb cb cl m S l ps L c i' w'
theorem step_any (w0 w : World) (T : Nat → Prop) (b : Nat) (i : Ins) (d : JbD) (bs : List RcL) (ds : List RecD) (hd : RecD) (jb cb cl : Nat) (m : MB) (S : Nat → Prop) (l : LimN) (k : Int) (ps : List Pt) (L : List Pg) (c : Ck) (h : AgI w T b i d ds hd jb cb cl) (hW : AgW w0 w T b d bs ds hd cl m S) (hM : MemAt w m S l k ps L c) :
    Calls Try.prog 12 #[.pointer (some ⟨b, 0, none⟩), .pointer (some ⟨m.mb, 0, none⟩)] w (StepQ w0 w T b i d bs ds hd jb cb cl m S l ps L c) := by
  by_cases hs : i.st = 0
  · refine (iStep0 w b i _ h.lies hs).mono ?_
    rintro ev w' ⟨rfl, rfl⟩
    exact ⟨true, i, rfl, .start h hW hM⟩
  · refine (ag_step w0 w T b i d bs ds hd jb cb cl m S l k ps L c h hW hM hs).mono ?_
    rintro ev w' ⟨S', j, ps', L', rfl, hM', ha, hA', hk, hS, hc⟩
    refine ⟨_, settleI j, rfl, S', _, ps', L', .more .none h.sh hs h.hasf ha, hM', hA', hW.step hM' hk hS hc, hk, hS⟩
theorem begun_shape (page os og : Int) (n : Nat) (hn : n ≤ 4) (f : Fn) (a c : Array Value) : Shape (settleI (beginI page os og n (.func f a c))) ∧ InvF (settleI (beginI 0 1 1 n (.func f a c))) ∧ (settleI (beginI page os og n (.func f a c))).dn = false := by
  by_cases h : n = 0
  · subst h
    rw [settle_begin0, settle_begin0]
    exact ⟨⟨by show 0 ≤ 4; decide, by show 0 ≤ 4; decide, by show 0 ≤ 5; decide, by show 0 ≤ 4; decide, .inl rfl, .inr (.inr (.inl ⟨rfl, rfl, rfl, rfl, rfl⟩))⟩, ⟨fun q hq => absurd hq (Nat.not_lt_zero q), fun q hq => absurd hq (Nat.not_lt_zero q), fun _ => ⟨rfl, rfl, rfl⟩⟩, rfl⟩
  · rw [settle_beginN _ _ _ n (by omega), settle_beginN _ _ _ n (by omega)]
    exact ⟨⟨hn, by show 0 ≤ 4; decide, by show 0 ≤ 5; decide, by show 0 ≤ 4; decide, .inl rfl, .inr (.inl ⟨rfl, by show 0 < n; omega, rfl, rfl, rfl⟩)⟩, ⟨fun q hq => absurd hq (Nat.not_lt_zero q), fun q hq => absurd hq (Nat.not_lt_zero q), fun _ => ⟨rfl, rfl, rfl⟩⟩, rfl⟩
theorem begun_fields (page os og : Int) (n : Nat) (f : Fn) (a c : Array Value) : (settleI (beginI page os og n (.func f a c))).fn = .func f a c ∧ (settleI (beginI page os og n (.func f a c))).rc = (fun _ => rcZ) ∧ ((settleI (beginI page os og n (.func f a c))).st = 1 ∨ (settleI (beginI page os og n (.func f a c))).st = 2) := by
  by_cases h : n = 0
  · subst h
    rw [settle_begin0]
    exact ⟨rfl, rfl, .inr rfl⟩
  · rw [settle_beginN _ _ _ n (by omega)]
    exact ⟨rfl, rfl, .inl rfl⟩
/-- begun for a job of the laws' -/
theorem AgI.begun {w : World} {T : Nat → Prop} {b : Nat} {d : JbD} {ds : List RecD} {hd : RecD} {jb cb cl n : Nat} {page os og : Int} (hn : n ≤ 4) (hI : InsAt w b (settleI (beginI page os og n (.func (.func 35) #[] #[.pointer (some ⟨cb, 0, none⟩), .pointer (some ⟨jb, 0, none⟩)]))))
    (hj : w.heap[jb]? = some (.cells d.cells.toArray 46 (0, 0))) (hc : w.heap[cb]? = some (.cells #[.pointer (some ⟨cl, 0, none⟩)] 53 (0, 0))) (nj : ¬ T jb) (nc : ¬ T cb) :
    AgI w T b (settleI (beginI page os og n (.func (.func 35) #[] #[.pointer (some ⟨cb, 0, none⟩), .pointer (some ⟨jb, 0, none⟩)]))) d ds hd jb cb cl := by
  obtain ⟨e1, e2, e3⟩ := begun_fields page os og n (.func 35) #[] #[.pointer (some ⟨cb, 0, none⟩), .pointer (some ⟨jb, 0, none⟩)]
  exact ⟨hI, (begun_shape page os og n hn _ _ _).1, fun _ => ⟨e1, e2, hj, hc, nj, nc⟩, fun e => by rcases e3 with h | h <;> omega⟩
/-- refused -/
theorem AgI.wrong {w : World} {T : Nat → Prop} {b : Nat} {d : JbD} {ds : List RecD} {hd : RecD} {jb cb cl : Nat} (hI : InsAt w b (Ins.zero errArg)) : AgI w T b (Ins.zero errArg) d ds hd jb cb cl :=
  AgI.rest hI ⟨by show 0 ≤ 4; decide, by show 0 ≤ 4; decide, by show 0 ≤ 5; decide, by show 0 ≤ 4; decide, .inr ⟨_, _, rfl⟩, .inl ⟨rfl, rfl⟩⟩ (.inl rfl)
theorem InvF.wrong : InvF (Ins.zero errArg) := ⟨fun q hq => absurd hq (Nat.not_lt_zero q), fun q hq => absurd hq (Nat.not_lt_zero q), fun e => by have h7 : 1 ≤ (0 : Nat) := e.1; omega⟩

open Go.RowKit

/-- what holds around all installers -/
structure AgB (w0 w : World) (T : Nat → Prop) (cl : Nat) (m : MB) (S : Nat → Prop) : Prop where
  below : Below w0.heap.size w0 w
  ctr : IntAt w cl
  tin : ∀ k, T k → w0.heap.size ≤ k ∧ k < w.heap.size
  tm : ∀ k, MS m S k → T k
  tc : T cl
  nc : ¬ MS m S cl
theorem AgW.base {w0 w : World} {T : Nat → Prop} {b : Nat} {d : JbD} {bs : List RcL} {ds : List RecD} {hd : RecD} {cl : Nat} {m : MB} {S : Nat → Prop} (h : AgW w0 w T b d bs ds hd cl m S) : AgB w0 w T cl m S := ⟨h.below, h.ctr, h.tin, h.tm, h.tc, h.nc⟩
theorem AgB.around {w0 w : World} {T : Nat → Prop} {b : Nat} {d : JbD} {bs : List RcL} {ds : List RecD} {hd : RecD} {cl : Nat} {m : MB} {S : Nat → Prop} (h : AgB w0 w T cl m S) (hJ : JobR w0 d bs ds hd) (tb : T b) (nb : ¬ MS m S b) (ne : b ≠ cl) : AgW w0 w T b d bs ds hd cl m S := ⟨hJ, h.below, h.ctr, h.tin, h.tm, tb, h.tc, nb, h.nc, ne⟩
/-- one block more -/
theorem AgB.join {w0 w w' : World} {T : Nat → Prop} {cl : Nat} {m : MB} {S : Nat → Prop} (h : AgB w0 w T cl m S) (hb : Below w.heap.size w w') {b : Nat} (h1 : w.heap.size ≤ b) (h2 : b < w'.heap.size) : AgB w0 w' (fun x => T x ∨ x = b) cl m S :=
  ⟨h.below.trans (hb.mono h.below.size), h.ctr.low hb, fun k q => q.elim (fun q => ⟨(h.tin k q).1, Nat.lt_of_lt_of_le (h.tin k q).2 hb.size⟩) (fun (e : k = b) => by rw [e]; exact ⟨Nat.le_trans h.below.size h1, h2⟩), fun k q => .inl (h.tm k q), .inl h.tc, h.nc⟩
theorem AgI.low {w w' : World} {T : Nat → Prop} {b' : Nat} {i : Ins} {d : JbD} {ds : List RecD} {hd : RecD} {jb cb cl : Nat} (h : AgI w T b' i d ds hd jb cb cl) (hb : Below w.heap.size w w') {b : Nat} (h1 : w.heap.size ≤ b) : AgI w' (fun x => T x ∨ x = b) b' i d ds hd jb cb cl := by
  refine ⟨h.lies.step hb, h.sh, fun e => ?_, fun e q hq => (h.recs e q hq).grow (Kept.of_below (S := fun _ => False) hb) (fun _ q => q.elim) (fun x q => q.imp id (fun (e : x = b) => by rw [e]; exact h1))⟩
  obtain ⟨a1, a2, a3, a4, a5, a6⟩ := h.job e
  have l3 := (Array.getElem?_eq_some_iff.1 a3).1
  have l4 := (Array.getElem?_eq_some_iff.1 a4).1
  exact ⟨a1, a2, blk_step a3 hb, blk_step a4 hb, fun q => q.elim a5 (fun e => by omega), fun q => q.elim a6 (fun e => by omega)⟩
def putF {α : Type} (f : Nat → α) (n : Nat) (a : α) (q : Nat) : α := if q = n then a else f q
theorem putF_at {α : Type} (f : Nat → α) (n : Nat) (a : α) : putF f n a n = a := if_pos rfl
theorem putF_ne {α : Type} (f : Nat → α) {n : Nat} (a : α) {q : Nat} (h : q ≠ n) : putF f n a q = f q := if_neg h
theorem Crew.none {w0 w : World} {T : Nat → Prop} {bk : Nat → Nat} {js : Nat → JobT} {is : Nat → Ins} {cl : Nat} {m : MB} {S : Nat → Prop} {l : LimN} {k : Int} {ps : List Pt} {L : List Pg} {c : Ck} {D : Prop} (hM : MemAt w m S l k ps L c) (h1 : InvM ps L D) : Crew w0 w T 0 bk js is cl m S l ps L c D :=
  ⟨⟨k, hM⟩, fun q h => absurd h (Nat.not_lt_zero q), fun q h => absurd h (Nat.not_lt_zero q), fun q _ h => absurd h (Nat.not_lt_zero q), fun q h => absurd h (Nat.not_lt_zero q), fun q _ h => absurd h (Nat.not_lt_zero q), fun q h => absurd h (Nat.not_lt_zero q), h1⟩
/-- one installer more -/
theorem Crew.join {w0 w w' : World} {T : Nat → Prop} {n : Nat} {bk : Nat → Nat} {js : Nat → JobT} {is : Nat → Ins} {cl : Nat} {m : MB} {S : Nat → Prop} {l : LimN} {ps : List Pt} {L : List Pg} {c : Ck} {D : Prop} (h : Crew w0 w T n bk js is cl m S l ps L c D) (hB : AgB w0 w T cl m S) (hb : Below w.heap.size w w') {b : Nat} (h1 : w.heap.size ≤ b) (h2 : b < w'.heap.size) {J : JobT} {i : Ins} (hJ : JobR w0 J.d J.bs J.ds J.hd) (hA : AgI w' (fun x => T x ∨ x = b) b i J.d J.ds J.hd J.jb J.cb cl) (hF : InvF i) (hd : i.dn = false) :
    Crew w0 w' (fun x => T x ∨ x = b) (n + 1) (putF bk n b) (putF js n J) (putF is n i) cl m S l ps L c D := by
  have hB' := hB.join hb h1 h2
  obtain ⟨k, hM⟩ := h.mem
  have old : ∀ q, q < n → bk q < w.heap.size := fun q hq => ((h.aw q hq).tin _ (h.aw q hq).tb).2
  have cas : ∀ q, q < n + 1 → q = n ∨ (q ≠ n ∧ q < n) := fun q hq => by omega
  refine ⟨⟨k, hM.low hb⟩, fun q hq => ?_, fun q hq => ?_, fun q r hq hr e => ?_, fun q hq => ?_, fun q r hq hr e1 e2 => ?_, fun q hq e => ?_, h.one⟩
  · rcases cas q hq with rfl | ⟨hn, hl⟩
    · rw [putF_at, putF_at, putF_at]; exact hA
    · rw [putF_ne _ _ hn, putF_ne _ _ hn, putF_ne _ _ hn]; exact (h.ag q hl).low hb h1
  · rcases cas q hq with rfl | ⟨hn, hl⟩
    · rw [putF_at, putF_at]
      exact hB'.around hJ (.inr rfl) (fun q => by have := hM.lt _ q; omega) (fun e => by have := (hB.tin cl hB.tc).2; omega)
    · rw [putF_ne _ _ hn, putF_ne _ _ hn]
      exact hB'.around (h.aw q hl).jobR (.inl (h.aw q hl).tb) (h.aw q hl).nb (h.aw q hl).ne
  · rcases cas q hq with rfl | ⟨hn, hl⟩ <;> rcases cas r hr with rfl | ⟨hn', hl'⟩
    · rfl
    · rw [putF_at, putF_ne _ _ hn'] at e; have := old r hl'; omega
    · rw [putF_at, putF_ne _ _ hn] at e; have := old q hl; omega
    · rw [putF_ne _ _ hn, putF_ne _ _ hn'] at e; exact h.inj q r hl hl' e
  · rcases cas q hq with rfl | ⟨hn, hl⟩
    · rw [putF_at]; exact hF
    · rw [putF_ne _ _ hn]; exact h.inv q hl
  · rcases cas q hq with rfl | ⟨hn, hl⟩
    · rw [putF_at, hd] at e1; cases e1
    · rcases cas r hr with rfl | ⟨hn', hl'⟩
      · rw [putF_at, hd] at e2; cases e2
      · rw [putF_ne _ _ hn] at e1; rw [putF_ne _ _ hn'] at e2; exact h.uni q r hl hl' e1 e2
  · rcases cas q hq with rfl | ⟨hn, hl⟩
    · rw [putF_at, hd] at e; cases e
    · rw [putF_ne _ _ hn] at e; exact h.low q hl e

open Go.RowKit

/-- memory beside all of them is written, blocks of the call's own join -/
structure Beside (w w' : World) (T T' K : Nat → Prop) (cl : Nat) (m : MB) (S : Nat → Prop) : Prop where
  kept : Kept K w w'
  kin : ∀ x, K x → T x
  km : ∀ x, K x → ¬ MS m S x
  kc : ¬ K cl
  up : ∀ x, T x → T' x
  new : ∀ x, T' x → T x ∨ w.heap.size ≤ x
  lt : ∀ x, T' x → x < w'.heap.size
theorem AgB.move {w0 w w' : World} {T T' K : Nat → Prop} {cl : Nat} {m : MB} {S : Nat → Prop} (h : AgB w0 w T cl m S) (v : Beside w w' T T' K cl m S) : AgB w0 w' T' cl m S :=
  ⟨h.below.trans (v.kept.below (n := w0.heap.size) (fun x q => (h.tin x (v.kin x q)).1) h.below.size), h.ctr.kept v.kept v.kc, fun x q => ⟨(v.new x q).elim (fun q => (h.tin x q).1) (fun q => Nat.le_trans h.below.size q), v.lt x q⟩, fun x q => v.up x (h.tm x q), v.up cl h.tc, h.nc⟩
theorem AgI.move {w w' : World} {T T' K : Nat → Prop} {b : Nat} {i : Ins} {d : JbD} {ds : List RecD} {hd : RecD} {jb cb cl : Nat} {m : MB} {S : Nat → Prop} (h : AgI w T b i d ds hd jb cb cl) (v : Beside w w' T T' K cl m S) (nk : ¬ K b) : AgI w' T' b i d ds hd jb cb cl := by
  refine ⟨h.lies.keep v.kept nk, h.sh, fun e => ?_, fun e q hq => (h.recs e q hq).grow v.kept v.kin v.new⟩
  obtain ⟨a1, a2, a3, a4, a5, a6⟩ := h.job e
  have l3 := (Array.getElem?_eq_some_iff.1 a3).1
  have l4 := (Array.getElem?_eq_some_iff.1 a4).1
  exact ⟨a1, a2, (v.kept.block jb l3 (fun q => a5 (v.kin _ q))).trans a3, (v.kept.block cb l4 (fun q => a6 (v.kin _ q))).trans a4, fun q => (v.new _ q).elim a5 (fun q => by omega), fun q => (v.new _ q).elim a6 (fun q => by omega)⟩
theorem Crew.move {w0 w w' : World} {T T' K : Nat → Prop} {n : Nat} {bk : Nat → Nat} {js : Nat → JobT} {is : Nat → Ins} {cl : Nat} {m : MB} {S : Nat → Prop} {l : LimN} {ps : List Pt} {L : List Pg} {c : Ck} {D : Prop} (h : Crew w0 w T n bk js is cl m S l ps L c D) (hB : AgB w0 w T cl m S) (v : Beside w w' T T' K cl m S) (nk : ∀ q, q < n → ¬ K (bk q)) : Crew w0 w' T' n bk js is cl m S l ps L c D := by
  obtain ⟨k, hM⟩ := h.mem
  exact ⟨⟨k, hM.keep v.kept (fun x hx q => v.km x q hx)⟩, fun q hq => (h.ag q hq).move v (nk q hq), fun q hq => (hB.move v).around (h.aw q hq).jobR (v.up _ (h.aw q hq).tb) (h.aw q hq).nb (h.aw q hq).ne, h.inj, h.inv, h.uni, h.low, h.one⟩
/-- of several, those done: one at most -/
theorem Crew.count {w0 w : World} {T : Nat → Prop} {n : Nat} {bk : Nat → Nat} {js : Nat → JobT} {is : Nat → Ins} {cl : Nat} {m : MB} {S : Nat → Prop} {l : LimN} {ps : List Pt} {L : List Pg} {c : Ck} {D : Prop} (h : Crew w0 w T n bk js is cl m S l ps L c D) {q : Nat} (hq : q < n) (hd : (is q).dn = true) : ∀ r, r < n → r ≠ q → (is r).dn = false := fun r hr hn => by
  cases e : (is r).dn
  · rfl
  · exact absurd (h.uni r q hr hq e hd) hn

open Go.RowKit

/-- pointers to blocks -/
def lPtr : Lay Nat := ⟨47, 1, fun b => [.pointer (some ⟨b, 0, none⟩)], fun _ => rfl, fun x u h => by simp at h; subst h; rfl⟩
/-- all installers, and the list of them -/
structure Lst (w0 w : World) (T : Nat → Prop) (n : Nat) (bk : Nat → Nat) (js : Nat → JobT) (is : Nat → Ins) (cl : Nat) (m : MB) (S : Nat → Prop) (l : LimN) (ps : List Pt) (L : List Pg) (c : Ck) (D : Prop) (v : Value) : Prop where
  crew : Crew w0 w T n bk js is cl m S l ps L c D
  base : AgB w0 w T cl m S
  own : OwnS lPtr w0.heap.size w v ((List.range n).map bk)
  vt : ∀ b, v.ownBlock = some b → T b ∧ ¬ MS m S b ∧ b ≠ cl
  vb : ∀ b q, v.ownBlock = some b → q < n → bk q ≠ b
theorem Lst.start {w0 w : World} {T : Nat → Prop} {bk : Nat → Nat} {js : Nat → JobT} {is : Nat → Ins} {cl : Nat} {m : MB} {S : Nat → Prop} {l : LimN} {k : Int} {ps : List Pt} {L : List Pg} {c : Ck} {D : Prop} (hM : MemAt w m S l k ps L c) (h1 : InvM ps L D) (hB : AgB w0 w T cl m S) :
    Lst w0 w T 0 bk js is cl m S l ps L c D (.slice none 0 0) :=
  ⟨Crew.none hM h1, hB, OwnS.nil _ _ _, fun b h => (by cases h), fun b q h => (by cases h)⟩
/-- memory is made -/
theorem Lst.low {w0 w w' : World} {T : Nat → Prop} {n : Nat} {bk : Nat → Nat} {js : Nat → JobT} {is : Nat → Ins} {cl : Nat} {m : MB} {S : Nat → Prop} {l : LimN} {ps : List Pt} {L : List Pg} {c : Ck} {D : Prop} {v : Value} (h : Lst w0 w T n bk js is cl m S l ps L c D v) (hb : Below w.heap.size w w') :
    Lst w0 w' T n bk js is cl m S l ps L c D v := by
  have hv : Beside w w' T T (fun _ => False) cl m S := ⟨Kept.of_below hb, fun _ q => q.elim, fun _ q => q.elim, id, fun _ q => q, fun _ q => .inl q, fun x q => Nat.lt_of_lt_of_le (h.base.tin x q).2 hb.size⟩
  exact ⟨h.crew.move h.base hv (fun _ _ q => q), h.base.move hv, h.own.below hb, h.vt, h.vb⟩
theorem range_put (n : Nat) (bk : Nat → Nat) (b : Nat) : (List.range (n + 1)).map (putF bk n b) = (List.range n).map bk ++ [b] := by
  rw [List.range_succ, List.map_append, List.map_cons, List.map_nil, putF_at]
  refine congrArg (· ++ [b]) (List.map_congr_left fun x hx => putF_ne _ _ ?_)
  have := List.mem_range.1 hx
  omega
/-- one installer more, and the list with it -/
theorem Lst.add {w0 w w1 w2 : World} {T : Nat → Prop} {n : Nat} {bk : Nat → Nat} {js : Nat → JobT} {is : Nat → Ins} {cl : Nat} {m : MB} {S : Nat → Prop} {l : LimN} {ps : List Pt} {L : List Pg} {c : Ck} {D : Prop} {v v' : Value} (h : Lst w0 w T n bk js is cl m S l ps L c D v) (hb : Below w.heap.size w w1) {b : Nat} (h1 : w.heap.size ≤ b) (h2 : b < w1.heap.size) {J : JobT} {i : Ins} (hJ : JobR w0 J.d J.bs J.ds J.hd) (hA : AgI w1 (fun x => T x ∨ x = b) b i J.d J.ds J.hd J.jb J.cb cl) (hF : InvF i) (hd : i.dn = false)
    (ho : OwnS lPtr w0.heap.size w2 v' ((List.range n).map bk ++ [b])) (hg : w1.grownBy w2 v.ownBlock) (hl : v'.ownBlock = v.ownBlock ∨ v'.ownBlock = some w1.heap.size) :
    Lst w0 w2 (fun x => (T x ∨ x = b) ∨ some x = v'.ownBlock) (n + 1) (putF bk n b) (putF js n J) (putF is n i) cl m S l ps L c D v' := by
  have hc := h.crew.join h.base hb h1 h2 hJ hA hF hd
  have hB := h.base.join hb h1 h2
  have old : ∀ q, q < n → bk q < w.heap.size := fun q hq => (h.base.tin _ (h.crew.aw q hq).tb).2
  have hv : Beside w1 w2 (fun x => T x ∨ x = b) (fun x => (T x ∨ x = b) ∨ some x = v'.ownBlock) (fun x => some x = v.ownBlock) cl m S :=
    ⟨Kept.of_grown hg, fun x q => .inl (h.vt x q.symm).1, fun x q => (h.vt x q.symm).2.1, fun q => (h.vt cl q.symm).2.2 rfl, fun x q => .inl q, fun x q => q.elim .inl (fun q => hl.elim (fun e => .inl (.inl (h.vt x (e ▸ q.symm)).1)) (fun e => .inr (by rw [e] at q; have := Option.some.inj q; omega))), fun x q => q.elim (fun q => Nat.lt_of_lt_of_le (hB.tin x q).2 hg.size) (fun q => (ho.bounds x q.symm).2)⟩
  have cas : ∀ q, q < n + 1 → q = n ∨ (q ≠ n ∧ q < n) := fun q hq => by omega
  refine ⟨hc.move hB hv (fun q hq e => ?_), hB.move hv, by rw [range_put]; exact ho, fun x e => ⟨.inr e.symm, ?_, ?_⟩, fun x q e hq => ?_⟩
  · rcases cas q hq with rfl | ⟨hn, hlt⟩
    · rw [putF_at] at e
      have := (h.base.tin _ (h.vt _ e.symm).1).2
      omega
    · rw [putF_ne _ _ hn] at e
      exact h.vb _ q e.symm hlt rfl
  · rcases hl with e2 | e2
    · exact (h.vt x (e2 ▸ e)).2.1
    · intro hm
      have h3 := (h.base.tin x (h.base.tm x hm)).2
      rw [e2] at e
      have h4 := Option.some.inj e
      have h5 := hb.size
      omega
  · rcases hl with e2 | e2
    · exact (h.vt x (e2 ▸ e)).2.2
    · intro hm
      subst hm
      have h3 := (h.base.tin _ h.base.tc).2
      rw [e2] at e
      have h4 := Option.some.inj e
      have h5 := hb.size
      omega
  · have hx : x < w.heap.size ∨ w1.heap.size = x := by
      rcases hl with e2 | e2
      · exact .inl (h.base.tin x (h.vt x (e2 ▸ e)).1).2
      · rw [e2] at e; exact .inr (Option.some.inj e)
    rcases cas q hq with rfl | ⟨hn, hlt⟩
    · rw [putF_at]
      omega
    · rw [putF_ne _ _ hn]
      rcases hl with e2 | e2
      · exact h.vb x q (e2 ▸ e) hlt
      · rw [e2] at e
        have h4 := Option.some.inj e
        have h5 := hb.size
        have := old q hlt
        omega
/-- one of them goes on -/
theorem Lst.go {w0 w w' : World} {T : Nat → Prop} {n : Nat} {bk : Nat → Nat} {js : Nat → JobT} {is : Nat → Ins} {cl : Nat} {m : MB} {S : Nat → Prop} {l : LimN} {ps : List Pt} {L : List Pg} {c : Ck} {D : Prop} {v : Value} (h : Lst w0 w T n bk js is cl m S l ps L c D v) {q : Nat} (hq : q < n) {i' : Ins} (hr : RunAt w0 w T (bk q) (is q) (js q).d (js q).bs (js q).ds (js q).hd (js q).jb (js q).cb cl m S l ps L c i' w') :
    ∃ T' S' ps' L' D', Lst w0 w' T' n bk js (updI is q i') cl m S' l ps' L' c D' v := by
  obtain ⟨S', ps', L', D', hc, hk, hS⟩ := h.crew.go hq hr
  refine ⟨_, S', ps', L', D', hc, (hc.aw q hq).base, h.own.kept hk (fun a n2 c2 e hs => ?_), fun b e => ?_, h.vb⟩
  · have e2 : v.ownBlock = some a.block := by rw [e]; rfl
    obtain ⟨v1, v2, v3⟩ := h.vt _ e2
    exact hs.elim (fun q2 => q2.elim v2 (fun e3 => h.vb _ q e2 hq e3.symm)) v3
  · obtain ⟨v1, v2, v3⟩ := h.vt b e
    exact ⟨.inl v1, fun q2 => (hS b q2).elim v2 (fun q3 => by have := (h.own.bounds b e).2; omega), v3⟩
/-- the list's element, an installer -/
theorem Lst.at {w0 w : World} {T : Nat → Prop} {n : Nat} {bk : Nat → Nat} {js : Nat → JobT} {is : Nat → Ins} {cl : Nat} {m : MB} {S : Nat → Prop} {l : LimN} {ps : List Pt} {L : List Pg} {c : Ck} {D : Prop} {v : Value} (h : Lst w0 w T n bk js is cl m S l ps L c D v) {q : Nat} (hq : q < n) : ∃ g cap, v = .slice (some ⟨g, 0, none⟩) n cap ∧ w.cell? ⟨g, q, none⟩ = some (.pointer (some ⟨bk q, 0, none⟩)) := by
  obtain ⟨g, cap, e, -⟩ := h.own.form (by simp; omega)
  have el : ((List.range n).map bk).length = n := by simp
  rw [el] at e
  refine ⟨g, cap, e, ?_⟩
  subst e
  have hx : ((List.range n).map bk)[q]? = some (bk q) := by rw [List.getElem?_map, List.getElem?_range hq]; rfl
  have := h.own.sv.cellAt (j := 0) (u := .pointer (some ⟨bk q, 0, none⟩)) hx rfl
  simpa [lPtr] using this
theorem Lst.form {w0 w : World} {T : Nat → Prop} {n : Nat} {bk : Nat → Nat} {js : Nat → JobT} {is : Nat → Ins} {cl : Nat} {m : MB} {S : Nat → Prop} {l : LimN} {ps : List Pt} {L : List Pg} {c : Ck} {D : Prop} {v : Value} (h : Lst w0 w T n bk js is cl m S l ps L c D v) : ∃ a cap, v = .slice a n cap := by
  obtain ⟨a, cap, e, -⟩ := h.own.lenN (n := n) (by simp)
  exact ⟨a, cap, e⟩
/-- behind Begin, for a job of the laws' at page 0's first head -/
def BegQ (w : World) (d : JbD) (ds : List RecD) (hd : RecD) (jb cb cl : Nat) (ev : Ending) (w' : World) : Prop := ∃ (b : Nat) (i : Ins), ev = .returned (.pointer (some ⟨b, 0, none⟩)) ∧ w.heap.size ≤ b ∧ b < w'.heap.size ∧ Below w.heap.size w w' ∧ InvF i ∧ i.dn = false ∧ ∀ T : Nat → Prop, ¬ T jb → ¬ T cb → AgI w' T b i d ds hd jb cb cl
theorem begin_fst (d : JbD) (ds : List RecD) (hd : RecD) (jb cb cl : Nat) (w : World) (hj : w.heap[jb]? = some (.cells d.cells.toArray 46 (0, 0))) (hc : w.heap[cb]? = some (.cells #[.pointer (some ⟨cl, 0, none⟩)] 53 (0, 0))) :
    Calls Try.prog 10 #[jobV 0 1 1 d.news (.func (.func 35) #[] #[.pointer (some ⟨cb, 0, none⟩), .pointer (some ⟨jb, 0, none⟩)])] w (BegQ w d ds hd jb cb cl) := by
  by_cases h : 0 ≤ d.news ∧ d.news ≤ 4
  · obtain ⟨n, hn⟩ : ∃ n : Nat, d.news = (n : Int) := ⟨d.news.toNat, by omega⟩
    rw [hn]
    have h4 : n ≤ 4 := by omega
    refine (begin_y 0 1 1 n _ _ _ h4 w).mono ?_
    rintro ev w' ⟨b, rfl, hI, hb, hs⟩
    obtain ⟨-, hF, hd0⟩ := begun_shape 0 1 1 n h4 (.func 35) #[] #[.pointer (some ⟨cb, 0, none⟩), .pointer (some ⟨jb, 0, none⟩)]
    exact ⟨b, _, rfl, hb, (Array.getElem?_eq_some_iff.1 hI.blk).1, hs, hF, hd0, fun T nj nc => AgI.begun h4 hI (blk_step hj hs) (blk_step hc hs) nj nc⟩
  · refine (begin_o 0 1 1 d.news _ _ _ (by omega) w).mono ?_
    rintro ev w' ⟨b, rfl, hI, hb, hs⟩
    exact ⟨b, _, rfl, hb, (Array.getElem?_eq_some_iff.1 hI.blk).1, hs, InvF.wrong, rfl, fun T _ _ => AgI.wrong hI⟩
theorem lPtr_known : lPtr.known 8 := known_of (z := .pointer none) (by kernel_rfl) rfl rfl
/-- how many are done: one at most -/
def Cnt1 (is : Nat → Ins) (q : Nat) (d : Int) : Prop := d = 0 ∨ (d = 1 ∧ ∃ r, r < q ∧ (is r).dn = true)
theorem Cnt1.more {w0 w : World} {T : Nat → Prop} {n : Nat} {bk : Nat → Nat} {js : Nat → JobT} {is : Nat → Ins} {cl : Nat} {m : MB} {S : Nat → Prop} {l : LimN} {ps : List Pt} {L : List Pg} {c : Ck} {D : Prop} {q : Nat} {i' : Ins} {d : Int} (h : Cnt1 is q d) (hc : Crew w0 w T n bk js (updI is q i') cl m S l ps L c D) (hq : q < n) :
    (i'.dn = false → Cnt1 (updI is q i') (q + 1) d) ∧ (i'.dn = true → Cnt1 (updI is q i') (q + 1) (d + 1)) := by
  have up : ∀ r, r < q → (updI is q i' r).dn = (is r).dn := fun r hr => by rw [updI_ne _ _ _ (by omega)]
  refine ⟨fun _ => ?_, fun e => ?_⟩
  · rcases h with h | ⟨h, r, hr, e⟩
    · exact .inl h
    · exact .inr ⟨h, r, by omega, by rw [up r hr]; exact e⟩
  · rcases h with h | ⟨h, r, hr, e2⟩
    · exact .inr ⟨by omega, q, by omega, by rw [updI_at]; exact e⟩
    · have := hc.uni r q (by omega) hq (by rw [up r hr]; exact e2) (by rw [updI_at]; exact e)
      omega
end Go.Proofs.Ytaiaaljahnackaa
