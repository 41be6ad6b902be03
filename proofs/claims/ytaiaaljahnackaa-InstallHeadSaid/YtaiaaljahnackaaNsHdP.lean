/- What an installer put in place is what Make told: the pure part. -/
import Derived.Test.YtaiaaljahnackaaNsOne
namespace Go.Proofs.Ytaiaaljahnackaa
open Go.RowKit

/-- a live ref's record -/
def Holds (n : Nat) (ps : List Pt) (r : Rf) (e : RecD) : Prop := codeM n ps r.1 r.2 = 0 ∧ loadM n ps r.1 r.2 = e
theorem find_app {ps : List Pt} {x y : Int} {j : Nat} (p : Pt) (h : findM ps x y = some j) : findM (ps ++ [p]) x y = some j := by
  unfold findM at h ⊢
  rw [List.findIdx?_append, h]
  rfl
theorem code_find {n : Nat} {ps : List Pt} {x y : Int} (h : codeM n ps x y = 0) : ∃ j, findM ps x y = some j ∧ ¬ (x < 1 ∨ (n : Int) < x) := by
  unfold codeM at h
  split at h
  · cases h
  · next hr =>
    cases hf : findM ps x y with
    | none => rw [hf] at h; cases h
    | some j => exact ⟨j, rfl, hr⟩
theorem find_lt {ps : List Pt} {x y : Int} {j : Nat} (h : findM ps x y = some j) : j < ps.length := by
  unfold findM at h
  exact (List.findIdx?_eq_some_iff_getElem.1 h).1
theorem Holds.put {n l : Nat} {ps : List Pt} {r : Rf} {e : RecD} (h : Holds n ps r e) (d : RecD) : Holds n (putM n l ps d) r e := by
  unfold putM
  split
  · obtain ⟨h1, h2⟩ := h
    obtain ⟨j, hf, hr⟩ := code_find h1
    have hf2 := find_app ⟨(allocM n l ps).1, (allocM n l ps).2.1, d, true⟩ hf
    have hc : codeM n (ps ++ [⟨(allocM n l ps).1, (allocM n l ps).2.1, d, true⟩]) r.1 r.2 = 0 := by unfold codeM; rw [if_neg hr, hf2]; rfl
    refine ⟨hc, ?_⟩
    rw [← h2]
    unfold loadM
    rw [if_pos hc, if_pos h1, hf2, hf]
    simp only [Option.bind_some]
    rw [List.getElem?_append_left (find_lt hf)]
  · exact h
theorem Holds.new {n l : Nat} {ps : List Pt} (d : RecD) (hv : Valid n ps) (h0 : (allocM n l ps).2.2 = 0) : Holds n (putM n l ps d) (((allocM n l ps).1 : Int), ((allocM n l ps).2.1 : Int)) d := by
  obtain ⟨m, h1, h2, hf, em, ep, -, hs⟩ := put_some d hv h0
  have hc : codeM n (putM n l ps d) (m : Int) ((allocM n l ps).2.1 : Int) = 0 := code_slot (by rw [hs, if_pos rfl]) h1 h2
  have hn : findM ps (m : Int) ((allocM n l ps).2.1 : Int) = none := by
    cases hx : findM ps (m : Int) ((allocM n l ps).2.1 : Int) with
    | none => rfl
    | some j =>
      obtain ⟨l1, p, l2, he, -, e1, -, hl⟩ := findM_some hx
      have h3 := hv.live he hl
      rw [Int.ofNat.inj e1] at h3
      rw [h3] at hf; cases hf
  have hf2 : findM (putM n l ps d) (m : Int) ((allocM n l ps).2.1 : Int) = some ps.length := by
    rw [ep]
    unfold findM at hn ⊢
    rw [List.findIdx?_append, hn]
    have : List.findIdx? (isAt (m : Int) ((allocM n l ps).2.1 : Int)) [⟨m, (allocM n l ps).2.1, d, true⟩] = some 0 := by
      simp [List.findIdx?_cons, isAt]
    rw [this]
    simp
  rw [em]
  refine ⟨hc, ?_⟩
  show loadM n (putM n l ps d) (m : Int) ((allocM n l ps).2.1 : Int) = d
  unfold loadM
  rw [if_pos hc, hf2, ep]
  simp
/-- what an installer has put so far, ahead of its end; and what stands behind it -/
structure InvH (l : LimN) (d : JbD) (ds : List RecD) (hd : RecD) (i : Ins) (ps : List Pt) (L : List Pg) : Prop where
  news : (1 ≤ i.st ∧ i.st ≤ 6) → (i.news : Int) = d.news
  loads : (3 ≤ i.st ∧ i.st ≤ 6) → ∀ q, q < i.pt → Holds l.s ps (i.rf q) (i.recs d ds hd q)
  heads : (3 ≤ i.st ∧ i.st ≤ 6) → ∀ q, q < i.sw → ∃ x : Nat, i.pg q = (x : Int) ∧ L[x]? = some (some (i.rf q))
  done : i.dn = true → i.pt = i.tk + 1 ∧ (i.tk : Int) = d.news ∧ (∀ q, q ≤ i.tk → Holds l.s ps (i.rf q) (recsM ds (mkHd hd d.fresh i.pgsL) i.tk q)) ∧ (∀ q, q < i.tk → ∃ x : Nat, i.pg q = (x : Int) ∧ L[x]? = some (some (i.rf q))) ∧ L[0]? = some (some (i.rf i.tk))
theorem InvH.late {l : LimN} {d : JbD} {ds : List RecD} {hd : RecD} {i : Ins} {ps : List Pt} {L : List Pg} (h : i.st = 0 ∨ i.st = 7 ∨ i.st = 8) (hd' : i.dn = false) : InvH l d ds hd i ps L :=
  ⟨fun e => by omega, fun e => by omega, fun e => by omega, fun e => by rw [hd'] at e; cases e⟩
theorem InvH.early {l : LimN} {d : JbD} {ds : List RecD} {hd : RecD} {i : Ins} {ps : List Pt} {L : List Pg} (h : i.st = 1 ∨ i.st = 2) (hd' : i.dn = false) (hn : (i.news : Int) = d.news) : InvH l d ds hd i ps L :=
  ⟨fun _ => hn, fun e => by omega, fun e => by omega, fun e => by rw [hd'] at e; cases e⟩
theorem InvH.back {l : LimN} {d : JbD} {ds : List RecD} {hd : RecD} (j : Ins) {ps : List Pt} {L : List Pg} (hd' : j.dn = false) : InvH l d ds hd (backI j) ps L := .late (back_st j) (back_dn j hd')
theorem InvH.und {l : LimN} {d : JbD} {ds : List RecD} {hd : RecD} {i j : Ins} {ps : List Pt} {L : List Pg} (hu : Und i j) : InvH l d ds hd (settleI j) ps L := by
  obtain ⟨v, -, rfl⟩ := hu
  rw [settle_back _ (.inl rfl)]
  exact .back _ rfl
theorem swap_true {L : List Pg} {x : Int} {o r : Rf} (hb : swapB L x o = true) : ∃ i : Nat, x = (i : Int) ∧ i < L.length ∧ swapL L x o r = L.set i (some r) := by
  rcases swap_some L x o r with e | ⟨i, h, e1, hi, e⟩
  · have hc := of_decide_eq_true ((Bool.and_eq_true _ _).mp hb).1
    rcases page_cases L x with ⟨e2, -⟩ | ⟨i, -, -, e2⟩ | ⟨i, h, rfl, hi, -, -⟩
    · rw [e2] at hc; cases hc
    · rw [e2] at hc; cases hc
    · exact ⟨i, rfl, (List.getElem?_eq_some_iff.1 hi).1, by unfold swapL; rw [if_pos hb]; simp⟩
  · exact ⟨i, e1, (List.getElem?_eq_some_iff.1 hi).1, e⟩
theorem head_step {l : LimN} {d : JbD} {ds : List RecD} {hd : RecD} {i j : Ins} {ps ps' ps0 : List Pt} {L L' L0 : List Pg} (h : AStep l d ds hd i ps L j ps' L') (hS : Shape i) (hf : i.st = 1 → i.hasF = true) (hF : InvF i) (hO : InvO l.s ps0 L0 i.pt i.tk i.rf i.pg ps L) (hH : InvH l d ds hd i ps L) :
    InvH l d ds hd (settleI j) ps' L' := by
  obtain ⟨hn4, ht4, hp5, hw4, -, hsh⟩ := hS
  rcases h with ⟨hs, rfl, rfl, ⟨he, rfl⟩ | ⟨he, hu⟩⟩ | ⟨hs, rfl, rfl, rc, ⟨he, rfl⟩ | ⟨he, hu⟩⟩ | ⟨hs | hs, rfl, rfl, ⟨he, rfl⟩ | ⟨he, hu⟩⟩ | ⟨hs, rfl, rfl, ⟨hb, rfl⟩ | ⟨-, hu⟩⟩ | ⟨hs, rfl, rfl, ⟨hb, rfl⟩ | ⟨hb, hu⟩⟩ | ⟨hs, rfl, rfl, rfl⟩ | ⟨hs, rfl, rfl, rfl⟩
  · obtain ⟨g1, -, -, g4⟩ : i.tk < i.news ∧ i.pt = 0 ∧ i.sw = 0 ∧ i.dn = false := by
      rcases hsh with g | g | g | g | g | g | g | g | g <;> first | (have := g.1; omega) | exact g.2
    obtain ⟨s, e, h2⟩ := settle_take i (takeN L : Int) hs g1 (hf hs)
    rw [e]
    exact .early (by show s = 1 ∨ s = 2; omega) g4 (hH.news ⟨by omega, by omega⟩)
  · exact .und hu
  · obtain ⟨g1, g2, g3, g4⟩ : i.tk = i.news ∧ i.pt = 0 ∧ i.sw = 0 ∧ i.dn = false := by
      rcases hsh with g | g | g | g | g | g | g | g | g <;> first | (have := g.1; omega) | exact g.2
    have hnew : ∀ s, InvH l d ds hd { fillI (madeI i rc) (((allocM l.s l.c ps).1 : Int), ((allocM l.s l.c ps).2.1 : Int)) with st := s } (putM l.s l.c ps (i.recs d ds hd 0)) L' := fun s =>
      ⟨fun _ => hH.news ⟨by omega, by omega⟩, fun _ q hq => by
        have hq0 : q = 0 := by have h5 : q < i.pt + 1 := hq; omega
        subst hq0
        show Holds l.s _ (upd i.rf i.pt _ 0) (i.recs d ds hd 0)
        rw [g2, upd_at]
        exact Holds.new _ hO.v he, fun _ q hq => by have h5 : q < i.sw := hq; omega, fun e => by have h5 : i.dn = true := e; rw [g4] at h5; cases h5⟩
    by_cases hz : i.news = 0
    · have hst : (madeI i rc).st = 5 := if_pos hz
      rw [settle_fill5 (madeI i rc) _ hst (by show i.pt = i.news; omega)]
      exact hnew 6
    · have hst : (madeI i rc).st = 3 := if_neg hz
      obtain ⟨s, e, -⟩ := settle_fill3 (madeI i rc) (((allocM l.s l.c ps).1 : Int), ((allocM l.s l.c ps).2.1 : Int)) hst (by show i.pt < i.news; omega) g3
      rw [e]
      exact hnew s
  · exact InvH.und (i := madeI i rc) hu
  · obtain ⟨-, g1, g2, g3, g4⟩ : i.fn = .nilFunc ∧ i.tk = i.news ∧ i.pt < i.news ∧ i.sw = 0 ∧ i.dn = false := by
      rcases hsh with g | g | g | g | g | g | g | g | g <;> first | (have := g.1; omega) | exact g.2
    obtain ⟨s, e, -⟩ := settle_fill3 i (((allocM l.s l.c ps).1 : Int), ((allocM l.s l.c ps).2.1 : Int)) hs g2 g3
    rw [e]
    exact ⟨fun _ => hH.news ⟨by omega, by omega⟩, fun _ q hq => by
        show Holds l.s _ (upd i.rf i.pt _ q) (i.recs d ds hd q)
        by_cases eq : q = i.pt
        · subst eq; rw [upd_at]; exact Holds.new _ hO.v he
        · rw [upd_ne _ _ eq]; exact (hH.loads ⟨by omega, by omega⟩ q (by have h5 : q < i.pt + 1 := hq; omega)).put _, fun _ q hq => by have h5 : q < i.sw := hq; omega, fun e => by have h5 : i.dn = true := e; rw [g4] at h5; cases h5⟩
  · exact .und hu
  · obtain ⟨-, g1, g2, g3, g4⟩ : i.fn = .nilFunc ∧ i.tk = i.news ∧ i.pt = i.news ∧ i.sw = i.news ∧ i.dn = false := by
      rcases hsh with g | g | g | g | g | g | g | g | g <;> first | (have := g.1; omega) | exact g.2
    rw [settle_fill5 i _ hs g2]
    exact ⟨fun _ => hH.news ⟨by omega, by omega⟩, fun _ q hq => by
        show Holds l.s _ (upd i.rf i.pt _ q) (i.recs d ds hd q)
        by_cases eq : q = i.pt
        · subst eq; rw [upd_at]; exact Holds.new _ hO.v he
        · rw [upd_ne _ _ eq]; exact (hH.loads ⟨by omega, by omega⟩ q (by have h5 : q < i.pt + 1 := hq; omega)).put _, fun _ q hq => by
        have h5 : q < i.sw := hq
        show ∃ x : Nat, i.pg q = (x : Int) ∧ L'[x]? = some (some (upd i.rf i.pt _ q))
        rw [upd_ne _ _ (by omega)]
        exact hH.heads ⟨by omega, by omega⟩ q h5, fun e => by have h5 : i.dn = true := e; rw [g4] at h5; cases h5⟩
  · exact .und hu
  · obtain ⟨-, g1, g2, g3, g4⟩ : i.fn = .nilFunc ∧ i.tk = i.news ∧ i.pt = i.news ∧ i.sw < i.news ∧ i.dn = false := by
      rcases hsh with g | g | g | g | g | g | g | g | g <;> first | (have := g.1; omega) | exact g.2
    obtain ⟨s, e, -⟩ := settle_swap4 i hs g3 g2
    rw [e]
    obtain ⟨x, e1, hx, eL⟩ := swap_true (r := i.rf i.sw) hb
    rw [eL]
    refine ⟨fun _ => hH.news ⟨by omega, by omega⟩, fun _ q hq => hH.loads ⟨by omega, by omega⟩ q hq, fun _ q hq => ?_, fun e => by have h5 : i.dn = true := e; rw [g4] at h5; cases h5⟩
    have h5 : q < i.sw + 1 := hq
    show ∃ y : Nat, i.pg q = (y : Int) ∧ (L.set x (some (i.rf i.sw)))[y]? = some (some (i.rf q))
    by_cases eq : q = i.sw
    · subst eq
      exact ⟨x, e1, by rw [List.getElem?_set_self hx]⟩
    · obtain ⟨y, e2, hy⟩ := hH.heads ⟨by omega, by omega⟩ q (by omega)
      refine ⟨y, e2, ?_⟩
      rw [List.getElem?_set_ne (fun e3 => eq (hO.pinj q i.sw (by omega) (by omega) (by rw [e2, e1, e3])))]
      exact hy
  · exact .und hu
  · obtain ⟨-, g1, g2, g3, g4⟩ : i.fn = .nilFunc ∧ i.tk = i.news ∧ i.pt = i.news + 1 ∧ i.sw = i.news ∧ i.dn = false := by
      rcases hsh with g | g | g | g | g | g | g | g | g <;> first | (have := g.1; omega) | exact g.2
    obtain ⟨e1, e2, e3⟩ := hF.job ⟨by omega, by omega⟩
    rw [e1, e2, e3] at hb ⊢
    obtain ⟨x, ex, hx, eL⟩ := swap_true (r := i.rf i.sw) hb
    have hx0 : x = 0 := by omega
    subst hx0
    rw [settle_succ, eL]
    refine ⟨fun e => by have h7 : 1 ≤ (0 : Nat) := e.1; omega, fun e => by have h7 : 3 ≤ (0 : Nat) := e.1; omega, fun e => by have h7 : 3 ≤ (0 : Nat) := e.1; omega, fun _ => ⟨?_, ?_, fun q hq => ?_, fun q hq => ?_, ?_⟩⟩
    · show i.pt = i.tk + 1; omega
    · show (i.tk : Int) = d.news
      rw [g1]; exact hH.news ⟨by omega, by omega⟩
    · have h5 : q ≤ i.tk := hq
      have h6 := hH.loads ⟨by omega, by omega⟩ q (by omega)
      show Holds l.s ps' (i.rf q) (recsM ds (mkHd hd d.fresh i.pgsL) i.tk q)
      rw [g1]
      exact h6
    · have h5 : q < i.tk := hq
      obtain ⟨y, e4, hy⟩ := hH.heads ⟨by omega, by omega⟩ q (by omega)
      refine ⟨y, e4, ?_⟩
      show (L.set 0 (some (i.rf i.sw)))[y]? = some (some (i.rf q))
      rw [List.getElem?_set_ne (fun e5 => hF.pg q h5 (by rw [e4, ← e5]; rfl))]
      exact hy
    · show (L.set 0 (some (i.rf i.sw)))[0]? = some (some (i.rf i.tk))
      rw [List.getElem?_set_self hx, g1, g3]
  · exact .und hu
  · obtain ⟨-, g1, g2⟩ : i.fn = .nilFunc ∧ 0 < i.pt ∧ i.dn = false := by
      rcases hsh with g | g | g | g | g | g | g | g | g <;> first | (have := g.1; omega) | exact g.2
    rw [settle_back { i with pt := i.pt - 1 } (.inl hs)]
    exact .back _ g2
  · obtain ⟨-, g1, g2, g3⟩ : i.fn = .nilFunc ∧ i.pt = 0 ∧ 0 < i.tk ∧ i.dn = false := by
      rcases hsh with g | g | g | g | g | g | g | g | g <;> first | (have := g.1; omega) | exact g.2
    rw [settle_back { i with tk := i.tk - 1 } (.inr ⟨hs, g1⟩)]
    exact .back _ g3
theorem run_head {l : LimN} {d : JbD} {ds : List RecD} {hd : RecD} {i i' : Ins} {ps ps' ps0 : List Pt} {L L' L0 : List Pg} (h : Run l d ds hd i ps L i' ps' L') (hF : InvF i) (hM : ∃ D, InvM ps L D) (hO : InvO l.s ps0 L0 i.pt i.tk i.rf i.pg ps L) (hH : InvH l d ds hd i ps L) :
    InvF i' ∧ (∃ D, InvM ps' L' D) ∧ InvO l.s ps0 L0 i'.pt i'.tk i'.rf i'.pg ps' L' ∧ InvH l d ds hd i' ps' L' := by
  induction h with
  | none => exact ⟨hF, hM, hO, hH⟩
  | more _ hs h0 hf ha ih =>
    obtain ⟨f1, ⟨D, m1⟩, o1, h1⟩ := ih
    obtain ⟨f2, m2⟩ := fst_step ha hs hf f1 m1
    exact ⟨f2, m2.elim (fun q => ⟨_, q.2⟩) (fun q => ⟨_, q.2.2⟩), own_step ha hs hf o1, head_step ha hs hf f1 o1 h1⟩
/-- behind its run, once more: with what the installer is then -/
theorem One.after2 {w0 w w' : World} {T : Nat → Prop} {cl : Nat} {m : MB} {S : Nat → Prop} {l : LimN} {ps : List Pt} {L : List Pg} {c : Ck} {d : JbD} {bs : List RcL} {ds : List RecD} {hd : RecD} {jb cb b : Nat} {i i' : Ins} (h : RunAt w0 w T b i d bs ds hd jb cb cl m S l ps L c i' w') (hm : ∀ x, MS m S x → T x) (hb : T b) (hc : T cl) :
    ∃ S' ps' L', One w0 w' (fun x => T x ∨ MS m S' x) cl m S' l ps' L' c ∧ Run l d ds hd i ps L i' ps' L' ∧ InsAt w' b i' ∧ Shape i' ∧ ¬ MS m S' b ∧ Kept T w w' ∧ (∀ x, MS m S' x → T x ∨ w.heap.size ≤ x) := by
  obtain ⟨S', k', ps', L', hR, hM, hA, hW, hk, hS⟩ := h
  exact ⟨S', ps', L', ⟨⟨k', hM⟩, hW.base⟩, hR, hA.lies, hA.sh, hW.nb, hk.wide (fun x _ q => q.elim (fun q => q.elim (hm x) (fun e => e ▸ hb)) (fun e => e ▸ hc)), fun x q => (hS x q).imp (hm x) id⟩
end Go.Proofs.Ytaiaaljahnackaa
