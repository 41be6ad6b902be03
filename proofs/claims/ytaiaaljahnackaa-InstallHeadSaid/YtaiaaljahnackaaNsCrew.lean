/- Several installers of layer 12's laws at one memory. -/
import Derived.Test.YtaiaaljahnackaaNsRun
namespace Go.Proofs.Ytaiaaljahnackaa
open Go.RowKit

/-! ### Slot 1 stays -/
theorem alloc_no1 {n l : Nat} {ps : List Pt} (h : slotOf ps 1 = (1, true)) (h0 : (allocM n l ps).2.2 = 0) : (allocM n l ps).1 ≠ 1 := by
  rcases allocM_spec n l ps with ⟨i, -, -, hf, -, he, -⟩ | ⟨-, e, h3, he⟩
  · rw [he]
    show i ≠ 1
    intro e
    subst e
    rw [h] at hf
    cases hf
  · rw [he] at h0
    rcases h3 with rfl | rfl <;> cases h0
theorem put_slot1 {n l : Nat} {ps : List Pt} {d : RecD} (h : slotOf ps 1 = (1, true)) : slotOf (putM n l ps d) 1 = (1, true) := by
  unfold putM
  split
  · next h0 => rw [slotOf_snoc, if_neg (alloc_no1 h h0)]; exact h
  · exact h
theorem fold_mod (m : Nat) : ∀ (ps : List Pt) (j : Nat) (p : Pt) (s : Nat × Bool), ps[j]? = some p → p.slot ≠ m → (ps.modify j (fun p => { p with live := false })).foldl (fun s p => if p.slot = m then (p.gen, p.live) else s) s = ps.foldl (fun s p => if p.slot = m then (p.gen, p.live) else s) s
  | [], j, p, s, h, _ => by simp at h
  | q :: ps, 0, p, s, h, hp => by
    obtain rfl : q = p := by simpa using h
    show List.foldl _ (if q.slot = m then (q.gen, false) else s) ps = List.foldl _ (if q.slot = m then (q.gen, q.live) else s) ps
    rw [if_neg hp, if_neg hp]
  | q :: ps, j + 1, p, s, h, hp => fold_mod m ps j p _ (by simpa using h) hp
theorem free_slot {n m : Nat} {ps : List Pt} {x y : Int} (h : x ≠ (m : Int)) : slotOf (freeM n ps x y) m = slotOf ps m := by
  unfold freeM
  split
  · split
    · next i hi =>
      obtain ⟨hl, hp, -⟩ := List.findIdx?_eq_some_iff_getElem.1 hi
      refine fold_mod m ps i ps[i] (0, false) (List.getElem?_eq_getElem hl) (fun e => ?_)
      have h2 : ((ps[i].slot : Nat) : Int) = x := by
        simp only [isAt, Bool.and_eq_true, beq_iff_eq] at hp
        exact hp.1.1
      rw [e] at h2
      exact h h2.symm
    · rfl
  · rfl
/-! ### Page 0 stays -/
theorem take_page0 {L : List Pg} {h : Rf} (h0 : L[0]? = some (some h)) : (takeL L)[0]? = some (some h) ∧ (takeE L = 0 → (takeN L : Int) ≠ 0) := by
  unfold takeL takeE takeN
  cases hf : firstFree L with
  | none => exact ⟨h0, fun e => by cases e⟩
  | some i =>
    have hi : i ≠ 0 := by
      intro e
      subst e
      obtain ⟨hl, hp, -⟩ := List.findIdx?_eq_some_iff_getElem.1 hf
      rw [List.getElem?_eq_getElem hl] at h0
      rw [Option.some.inj h0] at hp
      cases hp
    refine ⟨?_, fun _ => ?_⟩
    · show (L.set i (some (0, 0)))[0]? = _
      rw [List.getElem?_set_ne hi]
      exact h0
    · show ((i : Nat) : Int) ≠ 0
      omega
theorem code_nn {L : List Pg} {x : Int} (h : codeT L x = 0) : 0 ≤ x := by
  unfold codeT at h
  split at h
  · cases h
  · omega
theorem swap_page0 {L : List Pg} {h : Rf} {x : Int} {o n : Rf} (h0 : L[0]? = some (some h)) (hx : x ≠ 0) : (swapL L x o n)[0]? = some (some h) := by
  unfold swapL
  split
  · next hb =>
    have hc := code_nn (of_decide_eq_true ((Bool.and_eq_true _ _).mp hb).1)
    rw [List.getElem?_set_ne (by omega)]
    exact h0
  · exact h0
theorem give_page0 {L : List Pg} {h : Rf} {x : Int} (h0 : L[0]? = some (some h)) (hx : x ≠ 0) : (giveL L x)[0]? = some (some h) := by
  unfold giveL
  split
  · next hb =>
    have hc := code_nn hb
    rw [List.getElem?_set_ne (by omega)]
    exact h0
  · exact h0
theorem swap_at0 {L : List Pg} {h : Rf} {n : Rf} (h0 : L[0]? = some (some h)) (hb : swapB L 0 (1, 1) = true) : h = (1, 1) ∧ (swapL L 0 (1, 1) n)[0]? = some (some n) := by
  have h1 : headT L 0 = h := headT_at (i := 0) h0
  have h2 := of_decide_eq_true ((Bool.and_eq_true _ _).mp hb).2
  refine ⟨h1.symm.trans h2, ?_⟩
  unfold swapL
  rw [if_pos hb]
  show (L.set 0 (some n))[0]? = _
  rw [List.getElem?_set_self (List.getElem?_eq_some_iff.1 h0).1]
/-! ### What stays -/
structure InvF (i : Ins) : Prop where
  rf : ∀ q, q < i.pt → (i.rf q).1 ≠ 1
  pg : ∀ q, q < i.tk → i.pg q ≠ 0
  job : (1 ≤ i.st ∧ i.st ≤ 6) → i.page = 0 ∧ i.os = 1 ∧ i.og = 1
def InvM (ps : List Pt) (L : List Pg) (D : Prop) : Prop := slotOf ps 1 = (1, true) ∧ ∃ h, L[0]? = some (some h) ∧ (D → h ≠ (1, 1))
theorem InvF.back {j : Ins} (h1 : ∀ q, q < j.pt → (j.rf q).1 ≠ 1) (h2 : ∀ q, q < j.tk → j.pg q ≠ 0) : InvF (backI j) := by
  unfold backI
  split
  · exact ⟨h1, h2, fun e => by have h7 : (7 : Nat) ≤ 6 := e.2; omega⟩
  · split
    · exact ⟨h1, h2, fun e => by have h7 : (8 : Nat) ≤ 6 := e.2; omega⟩
    · exact ⟨fun q hq => absurd hq (Nat.not_lt_zero q), fun q hq => absurd hq (Nat.not_lt_zero q), fun e => by have h7 : 1 ≤ (0 : Nat) := e.1; omega⟩
theorem InvF.und {i j : Ins} (h : InvF i) (hu : Und i j) : InvF (settleI j) ∧ (settleI j).dn = false := by
  obtain ⟨v, -, rfl⟩ := hu
  rw [settle_back _ (.inl rfl)]
  exact ⟨.back h.rf h.pg, back_dn _ rfl⟩
theorem InvF.fill {i : Ins} (h : InvF i) {r : Rf} (hr : r.1 ≠ 1) (s : Nat) (hj : i.page = 0 ∧ i.os = 1 ∧ i.og = 1) : InvF { fillI i r with st := s } :=
  ⟨fun q hq => by
    show (upd i.rf i.pt r q).1 ≠ 1
    by_cases e : q = i.pt
    · rw [e, upd_at]; exact hr
    · rw [upd_ne _ _ e]; exact h.rf q (by have h1 : q < i.pt + 1 := hq; omega), h.pg, fun _ => hj⟩
theorem fst_step {l : LimN} {d : JbD} {ds : List RecD} {hd : RecD} {i j : Ins} {ps ps' : List Pt} {L L' : List Pg} {D : Prop} (h : AStep l d ds hd i ps L j ps' L') (hS : Shape i) (hf : i.st = 1 → i.hasF = true) (hF : InvF i) (hM : InvM ps L D) :
    InvF (settleI j) ∧ (((settleI j).dn = false ∧ InvM ps' L' D) ∨ ((settleI j).dn = true ∧ ¬ D ∧ InvM ps' L' True)) := by
  obtain ⟨hn4, ht4, hp5, hw4, -, hsh⟩ := hS
  obtain ⟨hs1, h0, hL, hD⟩ := hM
  rcases h with ⟨hs, rfl, rfl, ⟨he, rfl⟩ | ⟨-, hu⟩⟩ | ⟨hs, rfl, rfl, rc, ⟨he, rfl⟩ | ⟨-, hu⟩⟩ | ⟨hs | hs, rfl, rfl, ⟨he, rfl⟩ | ⟨-, hu⟩⟩ | ⟨hs, rfl, rfl, ⟨-, rfl⟩ | ⟨-, hu⟩⟩ | ⟨hs, rfl, rfl, ⟨hb, rfl⟩ | ⟨hb, hu⟩⟩ | ⟨hs, rfl, rfl, rfl⟩ | ⟨hs, rfl, rfl, rfl⟩
  · -- take
    obtain ⟨g1, -, -, g4⟩ : i.tk < i.news ∧ i.pt = 0 ∧ i.sw = 0 ∧ i.dn = false := by
      rcases hsh with g | g | g | g | g | g | g | g | g <;> first | (have := g.1; omega) | exact g.2
    obtain ⟨hL', hx⟩ := take_page0 hL
    obtain ⟨s, e, -⟩ := settle_take i (takeN L : Int) hs g1 (hf hs)
    rw [e]
    refine ⟨⟨hF.rf, fun q hq => ?_, fun _ => hF.job ⟨by omega, by omega⟩⟩, .inl ⟨g4, hs1, h0, hL', hD⟩⟩
    show upd i.pg i.tk (takeN L : Int) q ≠ 0
    by_cases e : q = i.tk
    · rw [e, upd_at]; exact hx he
    · rw [upd_ne _ _ e]; exact hF.pg q (by have h1 : q < i.tk + 1 := hq; omega)
  · obtain ⟨h1, h2⟩ := hF.und hu
    exact ⟨h1, .inl ⟨h2, hs1, h0, (take_page0 hL).1, hD⟩⟩
  · -- make
    obtain ⟨g1, g2, g3, g4⟩ : i.tk = i.news ∧ i.pt = 0 ∧ i.sw = 0 ∧ i.dn = false := by
      rcases hsh with g | g | g | g | g | g | g | g | g <;> first | (have := g.1; omega) | exact g.2
    have hr : (((allocM l.s l.c ps).1 : Int), ((allocM l.s l.c ps).2.1 : Int)).1 ≠ 1 := by have := alloc_no1 hs1 he; show ((allocM l.s l.c ps).1 : Int) ≠ 1; omega
    have hF' : InvF (madeI i rc) := ⟨hF.rf, hF.pg, fun _ => hF.job ⟨by omega, by omega⟩⟩
    by_cases hz : i.news = 0
    · have hst : (madeI i rc).st = 5 := if_pos hz
      rw [settle_fill5 (madeI i rc) _ hst (by show i.pt = i.news; omega)]
      exact ⟨hF'.fill hr 6 (hF.job ⟨by omega, by omega⟩), .inl ⟨g4, put_slot1 hs1, h0, hL, hD⟩⟩
    · have hst : (madeI i rc).st = 3 := if_neg hz
      obtain ⟨s, e, -⟩ := settle_fill3 (madeI i rc) (((allocM l.s l.c ps).1 : Int), ((allocM l.s l.c ps).2.1 : Int)) hst (by show i.pt < i.news; omega) g3
      rw [e]
      exact ⟨hF'.fill hr s (hF.job ⟨by omega, by omega⟩), .inl ⟨g4, put_slot1 hs1, h0, hL, hD⟩⟩
  · obtain ⟨h1, h2⟩ := InvF.und (i := madeI i rc) ⟨hF.rf, hF.pg, fun _ => hF.job ⟨by omega, by omega⟩⟩ hu
    exact ⟨h1, .inl ⟨h2, put_slot1 hs1, h0, hL, hD⟩⟩
  · -- fill a base
    obtain ⟨-, -, g2, g3, g4⟩ : i.fn = .nilFunc ∧ i.tk = i.news ∧ i.pt < i.news ∧ i.sw = 0 ∧ i.dn = false := by
      rcases hsh with g | g | g | g | g | g | g | g | g <;> first | (have := g.1; omega) | exact g.2
    have hr : (((allocM l.s l.c ps).1 : Int), ((allocM l.s l.c ps).2.1 : Int)).1 ≠ 1 := by have := alloc_no1 hs1 he; show ((allocM l.s l.c ps).1 : Int) ≠ 1; omega
    obtain ⟨s, e, -⟩ := settle_fill3 i (((allocM l.s l.c ps).1 : Int), ((allocM l.s l.c ps).2.1 : Int)) hs g2 g3
    rw [e]
    exact ⟨hF.fill hr s (hF.job ⟨by omega, by omega⟩), .inl ⟨g4, put_slot1 hs1, h0, hL, hD⟩⟩
  · obtain ⟨h1, h2⟩ := hF.und hu
    exact ⟨h1, .inl ⟨h2, put_slot1 hs1, h0, hL, hD⟩⟩
  · -- fill the head
    obtain ⟨-, -, g2, -, g4⟩ : i.fn = .nilFunc ∧ i.tk = i.news ∧ i.pt = i.news ∧ i.sw = i.news ∧ i.dn = false := by
      rcases hsh with g | g | g | g | g | g | g | g | g <;> first | (have := g.1; omega) | exact g.2
    have hr : (((allocM l.s l.c ps).1 : Int), ((allocM l.s l.c ps).2.1 : Int)).1 ≠ 1 := by have := alloc_no1 hs1 he; show ((allocM l.s l.c ps).1 : Int) ≠ 1; omega
    rw [settle_fill5 i _ hs g2]
    exact ⟨hF.fill hr 6 (hF.job ⟨by omega, by omega⟩), .inl ⟨g4, put_slot1 hs1, h0, hL, hD⟩⟩
  · obtain ⟨h1, h2⟩ := hF.und hu
    exact ⟨h1, .inl ⟨h2, put_slot1 hs1, h0, hL, hD⟩⟩
  · -- swap a base
    obtain ⟨-, g1, g2, g3, g4⟩ : i.fn = .nilFunc ∧ i.tk = i.news ∧ i.pt = i.news ∧ i.sw < i.news ∧ i.dn = false := by
      rcases hsh with g | g | g | g | g | g | g | g | g <;> first | (have := g.1; omega) | exact g.2
    obtain ⟨s, e, -⟩ := settle_swap4 i hs g3 g2
    rw [e]
    exact ⟨⟨hF.rf, hF.pg, fun _ => hF.job ⟨by omega, by omega⟩⟩, .inl ⟨g4, hs1, h0, swap_page0 hL (hF.pg i.sw (by omega)), hD⟩⟩
  · obtain ⟨h1, h2⟩ := hF.und hu
    obtain ⟨-, g1, g2, g3, g4⟩ : i.fn = .nilFunc ∧ i.tk = i.news ∧ i.pt = i.news ∧ i.sw < i.news ∧ i.dn = false := by
      rcases hsh with g | g | g | g | g | g | g | g | g <;> first | (have := g.1; omega) | exact g.2
    exact ⟨h1, .inl ⟨h2, hs1, h0, swap_page0 hL (hF.pg i.sw (by omega)), hD⟩⟩
  · -- the head's swap
    obtain ⟨-, g1, g2, g3, g4⟩ : i.fn = .nilFunc ∧ i.tk = i.news ∧ i.pt = i.news + 1 ∧ i.sw = i.news ∧ i.dn = false := by
      rcases hsh with g | g | g | g | g | g | g | g | g <;> first | (have := g.1; omega) | exact g.2
    obtain ⟨e1, e2, e3⟩ := hF.job ⟨by omega, by omega⟩
    rw [e1, e2, e3] at hb ⊢
    obtain ⟨e4, hL'⟩ := swap_at0 (n := i.rf i.sw) hL hb
    rw [settle_succ]
    refine ⟨⟨hF.rf, hF.pg, fun e => by have h7 : 1 ≤ (0 : Nat) := e.1; omega⟩, .inr ⟨rfl, fun hd => hD hd e4, hs1, _, hL', fun _ e5 => hF.rf i.sw (by omega) (congrArg Prod.fst e5)⟩⟩
  · obtain ⟨h1, h2⟩ := hF.und hu
    obtain ⟨e1, e2, e3⟩ := hF.job ⟨by omega, by omega⟩
    refine ⟨h1, .inl ⟨h2, hs1, h0, ?_, hD⟩⟩
    unfold swapL
    rw [if_neg (by rw [hb]; decide)]
    exact hL
  · -- free
    obtain ⟨-, g1, g2⟩ : i.fn = .nilFunc ∧ 0 < i.pt ∧ i.dn = false := by
      rcases hsh with g | g | g | g | g | g | g | g | g <;> first | (have := g.1; omega) | exact g.2
    rw [settle_back { i with pt := i.pt - 1 } (.inl hs)]
    refine ⟨.back (fun q hq => hF.rf q (by have h1 : q < i.pt - 1 := hq; omega)) hF.pg, .inl ⟨back_dn _ g2, ?_, h0, hL, hD⟩⟩
    rw [free_slot (m := 1) (hF.rf (i.pt - 1) (by omega))]
    exact hs1
  · -- give
    obtain ⟨-, g1, g2, g3⟩ : i.fn = .nilFunc ∧ i.pt = 0 ∧ 0 < i.tk ∧ i.dn = false := by
      rcases hsh with g | g | g | g | g | g | g | g | g <;> first | (have := g.1; omega) | exact g.2
    rw [settle_back { i with tk := i.tk - 1 } (.inr ⟨hs, g1⟩)]
    exact ⟨.back hF.rf (fun q hq => hF.pg q (by have h1 : q < i.tk - 1 := hq; omega)), .inl ⟨back_dn _ g3, hs1, h0, give_page0 hL (hF.pg (i.tk - 1) (by omega)), hD⟩⟩

open Go.RowKit

theorem Shape.dn {i : Ins} (h : Shape i) (hs : i.st ≠ 0) : i.dn = false := by
  obtain ⟨-, -, -, -, -, hsh⟩ := h
  rcases hsh with g | g | g | g | g | g | g | g | g
  · exact absurd g.1 hs
  · exact g.2.2.2.2
  · exact g.2.2.2.2
  · exact g.2.2.2.2.2
  · exact g.2.2.2.2.2
  · exact g.2.2.2.2.2
  · exact g.2.2.2.2.2
  · exact g.2.2.2
  · exact g.2.2.2.2
theorem run_fst {l : LimN} {d : JbD} {ds : List RecD} {hd : RecD} {i i' : Ins} {ps ps' : List Pt} {L L' : List Pg} {D : Prop} (h : Run l d ds hd i ps L i' ps' L') (hF : InvF i) (hM : InvM ps L D) :
    InvF i' ∧ ((i'.dn = i.dn ∧ InvM ps' L' D) ∨ (i.dn = false ∧ i'.dn = true ∧ ¬ D ∧ InvM ps' L' True)) := by
  induction h with
  | none => exact ⟨hF, .inl ⟨rfl, hM⟩⟩
  | more _ hs h0 hf ha ih =>
    obtain ⟨f1, ⟨e1, m1⟩ | ⟨-, e1, -, -⟩⟩ := ih
    · obtain ⟨f2, ⟨e2, m2⟩ | ⟨e2, nd, m2⟩⟩ := fst_step ha hs hf f1 m1
      · exact ⟨f2, .inl ⟨by rw [e2, ← e1, hs.dn h0], m2⟩⟩
      · exact ⟨f2, .inr ⟨by rw [← e1, hs.dn h0], e2, nd, m2⟩⟩
    · rw [hs.dn h0] at e1; cases e1
/-- another installer stays -/
theorem AgI.other {w w' : World} {T : Nat → Prop} {b b' : Nat} {i : Ins} {d : JbD} {ds : List RecD} {hd : RecD} {jb cb cl : Nat} {m : MB} {S S' : Nat → Prop} (h : AgI w T b' i d ds hd jb cb cl) (hk : Kept (fun x => US m S b x ∨ x = cl) w w') (hm : ∀ x, MS m S x → T x) (hb : T b) (hc : T cl) (hS : ∀ x, MS m S' x → MS m S x ∨ w.heap.size ≤ x) (n1 : ¬ MS m S b') (n2 : b' ≠ b) (n3 : b' ≠ cl) : AgI w' (fun x => T x ∨ MS m S' x) b' i d ds hd jb cb cl := by
  have hU : ∀ x, (US m S b x ∨ x = cl) → T x := fun x hx => hx.elim (fun q => q.elim (hm x) (fun e => e ▸ hb)) (fun e => e ▸ hc)
  have hG : ∀ x, (T x ∨ MS m S' x) → T x ∨ w.heap.size ≤ x := fun x hx => hx.elim .inl (fun q => (hS x q).imp (hm x) id)
  refine ⟨h.lies.keep hk (fun q => q.elim (fun q => q.elim n1 n2) n3), h.sh, fun e => ?_, fun e q hq => (h.recs e q hq).grow hk hU hG⟩
  obtain ⟨h1, h2, h3, h4, h5, h6⟩ := h.job e
  have hj := (Array.getElem?_eq_some_iff.1 h3).1
  have hc' := (Array.getElem?_eq_some_iff.1 h4).1
  exact ⟨h1, h2, (hk.block jb hj (fun q => h5 (hU _ q))).trans h3, (hk.block cb hc' (fun q => h6 (hU _ q))).trans h4, fun q => (hG _ q).elim h5 (fun q => by omega), fun q => (hG _ q).elim h6 (fun q => by omega)⟩
/-- what holds around another installer stays -/
theorem AgW.other {w0 w w' : World} {T : Nat → Prop} {b b' : Nat} {d : JbD} {bs : List RcL} {ds : List RecD} {hd : RecD} {d' : JbD} {bs' : List RcL} {ds' : List RecD} {hd' : RecD} {cl : Nat} {m : MB} {S S' : Nat → Prop} (h : AgW w0 w' (fun x => T x ∨ MS m S' x) b d bs ds hd cl m S') (k : AgW w0 w T b' d' bs' ds' hd' cl m S) (hS : ∀ x, MS m S' x → MS m S x ∨ w.heap.size ≤ x) : AgW w0 w' (fun x => T x ∨ MS m S' x) b' d' bs' ds' hd' cl m S' :=
  ⟨k.jobR, h.below, h.ctr, h.tin, fun _ q => .inr q, .inl k.tb, .inl k.tc, fun q => (hS b' q).elim k.nb (fun q => by have := (k.tin b' k.tb).2; omega), h.nc, k.ne⟩
/-- what is told of a job -/
structure JobT where
  d : JbD
  bs : List RcL
  ds : List RecD
  hd : RecD
  jb : Nat
  cb : Nat
/-- several installers at one memory, all begun at page 0's first head -/
structure Crew (w0 w : World) (T : Nat → Prop) (n : Nat) (bk : Nat → Nat) (js : Nat → JobT) (is : Nat → Ins) (cl : Nat) (m : MB) (S : Nat → Prop) (l : LimN) (ps : List Pt) (L : List Pg) (c : Ck) (D : Prop) : Prop where
  mem : ∃ k, MemAt w m S l k ps L c
  ag : ∀ q, q < n → AgI w T (bk q) (is q) (js q).d (js q).ds (js q).hd (js q).jb (js q).cb cl
  aw : ∀ q, q < n → AgW w0 w T (bk q) (js q).d (js q).bs (js q).ds (js q).hd cl m S
  inj : ∀ q r, q < n → r < n → bk q = bk r → q = r
  inv : ∀ q, q < n → InvF (is q)
  uni : ∀ q r, q < n → r < n → (is q).dn = true → (is r).dn = true → q = r
  low : ∀ q, q < n → (is q).dn = true → D
  one : InvM ps L D
def updI (is : Nat → Ins) (q : Nat) (i : Ins) (r : Nat) : Ins := if r = q then i else is r
theorem updI_at (is : Nat → Ins) (q : Nat) (i : Ins) : updI is q i q = i := if_pos rfl
theorem updI_ne (is : Nat → Ins) (q : Nat) (i : Ins) {r : Nat} (h : r ≠ q) : updI is q i r = is r := if_neg h
/-- one of them goes on -/
theorem Crew.go {w0 w w' : World} {T : Nat → Prop} {n : Nat} {bk : Nat → Nat} {js : Nat → JobT} {is : Nat → Ins} {cl : Nat} {m : MB} {S : Nat → Prop} {l : LimN} {ps : List Pt} {L : List Pg} {c : Ck} {D : Prop} (h : Crew w0 w T n bk js is cl m S l ps L c D) {q : Nat} (hq : q < n) {i' : Ins} (hr : RunAt w0 w T (bk q) (is q) (js q).d (js q).bs (js q).ds (js q).hd (js q).jb (js q).cb cl m S l ps L c i' w') :
    ∃ S' ps' L' D', Crew w0 w' (fun x => T x ∨ MS m S' x) n bk js (updI is q i') cl m S' l ps' L' c D' ∧ Kept (fun x => US m S (bk q) x ∨ x = cl) w w' ∧ (∀ x, MS m S' x → MS m S x ∨ w.heap.size ≤ x) := by
  obtain ⟨S', k', ps', L', hR, hM, hA, hW, hk, hS⟩ := hr
  obtain ⟨hf, hcase⟩ := run_fst hR (h.inv q hq) h.one
  have hag : ∀ r, r < n → AgI w' (fun x => T x ∨ MS m S' x) (bk r) (updI is q i' r) (js r).d (js r).ds (js r).hd (js r).jb (js r).cb cl := fun r hr => by
    by_cases e : r = q
    · subst e; rw [updI_at]; exact hA
    · rw [updI_ne _ _ _ e]
      exact (h.ag r hr).other hk (h.aw q hq).tm (h.aw q hq).tb (h.aw q hq).tc hS (h.aw r hr).nb (fun e2 => e (h.inj r q hr hq e2)) (h.aw r hr).ne
  have haw : ∀ r, r < n → AgW w0 w' (fun x => T x ∨ MS m S' x) (bk r) (js r).d (js r).bs (js r).ds (js r).hd cl m S' := fun r hr => by
    by_cases e : r = q
    · subst e; exact hW
    · exact hW.other (h.aw r hr) hS
  have hiv : ∀ r, r < n → InvF (updI is q i' r) := fun r hr => by
    by_cases e : r = q
    · subst e; rw [updI_at]; exact hf
    · rw [updI_ne _ _ _ e]; exact h.inv r hr
  rcases hcase with ⟨hd, h1⟩ | ⟨hd0, hd, hn, h1⟩
  · have hdn : ∀ r, (updI is q i' r).dn = (is r).dn := fun r => by
      by_cases e : r = q
      · subst e; rw [updI_at]; exact hd
      · rw [updI_ne _ _ _ e]
    exact ⟨S', ps', L', D, ⟨⟨k', hM⟩, hag, haw, h.inj, hiv, fun r s hr hs e1 e2 => h.uni r s hr hs ((hdn r).symm.trans e1) ((hdn s).symm.trans e2), fun r hr e => h.low r hr ((hdn r).symm.trans e), h1⟩, hk, hS⟩
  · have hdn : ∀ r, r < n → (updI is q i' r).dn = true → r = q := fun r hr e => by
      by_cases e2 : r = q
      · exact e2
      · rw [updI_ne _ _ _ e2] at e
        exact absurd (h.low r hr e) hn
    exact ⟨S', ps', L', True, ⟨⟨k', hM⟩, hag, haw, h.inj, hiv, fun r s hr hs e1 e2 => (hdn r hr e1).trans (hdn s hs e2).symm, fun _ _ _ => trivial, h1⟩, hk, hS⟩
end Go.Proofs.Ytaiaaljahnackaa
