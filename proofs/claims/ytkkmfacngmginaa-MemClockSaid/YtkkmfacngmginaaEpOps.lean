/- Package epoch's Now, Bump, Enter, Leave and At, by contracts. -/
import Derived.Test.YtkkmfacngmginaaMm
import Derived.Test.YtkkmfacngmginaaEpInv
namespace Go.Proofs.Ytkkmfacngmginaa
open Go.RowKit Go.Maps

set_option maxRecDepth 100000 in
set_option maxHeartbeats 4000000 in
theorem now_any (w : World) (cb mb : Nat) (c : Ck) (h : ClkAt w cb mb c) :
    Calls Try.prog 67 #[.pointer (some ⟨cb, 0, none⟩)] w fun ev w' => ev = .returned (.int .i64 c.n) ∧ Below w.heap.size w w' := by
  have c0 := h.c0
  have B := Lib.hid (Below.refl w.heap.size w)
  clear h
  go_enter Try.func67, Try.ntmps67
  go_wp2
  go_ret
  exact ⟨rfl, B.out⟩
set_option maxRecDepth 100000 in
set_option maxHeartbeats 4000000 in
theorem has_any (w : World) (cb mb : Nat) (c : Ck) (h : ClkAt w cb mb c) (x : Int) :
    Calls Try.prog 97 #[.pointer (some ⟨cb, 0, none⟩), .int .i64 x] w fun ev w' => ev = .returned (.bool (!decide (c.out x))) ∧ Below w.heap.size w w' := by
  have c2 := h.c2
  have B := Lib.hid (Below.refl w.heap.size w)
  clear h
  by_cases h1 : x < 0
  · have E := Lib.hid (show (!decide (c.out x)) = false by simp [Ck.out, h1])
    go_enter Try.func97, Try.ntmps97
    go_wp2
    go_ret
    exact ⟨by rw [E.out]; rfl, B.out⟩
  · by_cases h2 : x < (c.L.length : Int)
    · have E := Lib.hid (show (!decide (c.out x)) = true by have hn : ¬ c.out x := (by unfold Ck.out; omega); simp [hn])
      have h3 : 0 ≤ x := by omega
      go_enter Try.func97, Try.ntmps97
      go_wp2
      go_ret
      exact ⟨by rw [E.out]; rfl, B.out⟩
    · have E := Lib.hid (show (!decide (c.out x)) = false by have hn : c.out x := (by unfold Ck.out; omega); simp [hn])
      have h3 : 0 ≤ x := by omega
      go_enter Try.func97, Try.ntmps97
      go_wp2
      go_ret
      exact ⟨by rw [E.out]; rfl, B.out⟩
set_option maxRecDepth 100000 in
set_option maxHeartbeats 4000000 in
theorem bump_any (w : World) (cb mb : Nat) (c : Ck) (h : ClkAt w cb mb c) :
    Calls Try.prog 59 #[.pointer (some ⟨cb, 0, none⟩)] w fun ev w' => ev = .returned (.tuple #[.int .i64 c.bump.n, errV c.bumpE]) ∧ ClkAt w' cb mb c.bump ∧ Kept (CS cb mb) w w' := by
  have c0 := h.c0
  have c1 := h.c1
  have f0 := blk_free h.blk 0
  have I := Lib.hid h
  by_cases h1 : c.l ≤ c.n
  · have E := Lib.hid (show c.bumpE = 5 ∧ c.bump = c by unfold Ck.bumpE Ck.bump; rw [if_pos h1, if_pos h1]; exact ⟨rfl, rfl⟩)
    clear h
    go_enter Try.func59, Try.ntmps59
    go_wp2
    go_quiet (fail)
    go_wp2
    go_ret2
    rw [E.out.1, E.out.2]
    exact ⟨rfl, I.out.low (below_drewN (Below.refl _ _) _), Kept.of_below (below_drewN (Below.refl _ _) _)⟩
  · have E := Lib.hid (show c.bumpE = 0 ∧ c.bump = ⟨c.n + 1, c.l, c.L⟩ by unfold Ck.bumpE Ck.bump; rw [if_neg h1, if_neg h1]; exact ⟨rfl, rfl⟩)
    have O := Lib.hid (show Ck.ok ⟨c.n + 1, c.l, c.L⟩ by rw [← E.out.2]; exact Ck.bump_ok h.ok)
    have i1 : IntKind.i64.wrap (c.n + 1) = c.n + 1 := Go.IntWalk.i64_in _ (by have := h.ok.n1; have := h.ok.lm; omega)
    have h2 : c.n < c.l := by omega
    clear h
    go_enter Try.func59, Try.ntmps59
    go_wp2
    go_quiet (fail)
    go_wp2
    go_ret2
    rw [E.out.1, E.out.2]
    exact ⟨rfl, (I.out.low (below_drewN (Below.refl _ _) _)).num O.out, ((Kept.of_below (S := fun k => k = cb) (below_drewN (Below.refl _ _) _)).setCell _ _).wide fun k _ e => Or.inl e⟩
set_option maxRecDepth 100000 in
set_option maxHeartbeats 4000000 in
theorem at_any (w : World) (cb mb : Nat) (c : Ck) (h : ClkAt w cb mb c) (x : Int) :
    Calls Try.prog 60 #[.pointer (some ⟨cb, 0, none⟩), .int .i64 x] w fun ev w' => ev = .returned (.tuple #[.int .i64 (atL c.L x), .bool (decide (0 < atL c.L x)), errV (c.atE x)]) ∧ Below w.heap.size w w' := by
  have I := Lib.hid h
  by_cases ho : c.out x
  · have E := Lib.hid (show (!decide (c.out x)) = false ∧ c.atE x = 1 ∧ atL c.L x = 0 by simp only [ho, decide_true, Bool.not_true, true_and]; exact ⟨by unfold Ck.atE; rw [if_pos ho], atL_out ho⟩)
    clear h
    go_enter Try.func60, Try.ntmps60
    go_wp2_with fail
    refine (has_any _ cb mb c I.out x).mono ?_
    rintro ev w1 ⟨rfl, hs⟩
    rw [E.out.1]
    have B := Lib.hid hs
    clear hs
    go_wp2
    go_ret3
    rw [E.out.2.1, E.out.2.2]
    exact ⟨rfl, B.out⟩
  · have E := Lib.hid (show (!decide (c.out x)) = true ∧ c.atE x = 0 by simp only [ho, decide_false, Bool.not_false, true_and]; unfold Ck.atE; rw [if_neg ho])
    have X := Lib.hid (show 0 ≤ x ∧ x < (c.L.length : Int) by unfold Ck.out at ho; omega)
    have WX := Lib.hid (show (Lit.int .i64 x).wf = true from wfL (by have := X.out; omega) (by have := X.out; have := h.ok.tm; omega))
    clear h
    go_enter Try.func60, Try.ntmps60
    go_wp2_with fail
    refine (has_any _ cb mb c I.out x).mono ?_
    rintro ev w1 ⟨rfl, hs⟩
    rw [E.out.1]
    have B := Lib.hid hs
    obtain ⟨D, hm⟩ := (I.out.low hs).map
    have M := Lib.hid hm
    have c3 := (I.out.low hs).c3
    clear hs hm
    go_wp2_with (at_lookup; refine wpList_lookup_own_ok_int _ rfl _ _ 162 rfl 3 3 .i64 keyI Try.underlying162 Try.underlying3 (zeroI _) mb 100 D rfl M.out.own _ _ rfl (keyI_of WX.out) ?_; intro cc hat hwc; rw [M.out.has _ WX.out]; obtain rfl : cc = atL c.L x := (by rw [M.out.at0 _ WX.out] at hat; simpa [eq_comm] using hat))
    go_ret3
    rw [E.out.2]
    exact ⟨rfl, B.out⟩
theorem enter_cases (c : Ck) (x a : Int) : (c.out x ∧ c.enterE x a = 1) ∨ (∃ i : Nat, x = i ∧ i < c.L.length ∧ ¬ c.out x ∧ ((0 < atL c.L i ∧ c.enterE x a = 13) ∨ (atL c.L i = 0 ∧ (a < 1 ∨ c.n < a) ∧ c.enterE x a = 2) ∨ (atL c.L i = 0 ∧ 1 ≤ a ∧ a ≤ c.n ∧ c.enterE x a = 0))) ∨ atL c.L x < 0 := by
  by_cases ho : c.out x
  · exact .inl ⟨ho, by unfold Ck.enterE; rw [if_pos ho]⟩
  · have X : 0 ≤ x ∧ x < (c.L.length : Int) := by unfold Ck.out at ho; omega
    obtain ⟨i, rfl⟩ : ∃ i : Nat, x = i := ⟨x.toNat, by omega⟩
    by_cases hp : 0 < atL c.L i
    · exact .inr (.inl ⟨i, rfl, by omega, ho, .inl ⟨hp, by unfold Ck.enterE; rw [if_neg ho, if_pos hp]⟩⟩)
    · by_cases hz : atL c.L i = 0
      · by_cases ha : a < 1 ∨ c.n < a
        · exact .inr (.inl ⟨i, rfl, by omega, ho, .inr (.inl ⟨hz, ha, by unfold Ck.enterE; rw [if_neg ho, if_neg hp, if_pos ha]⟩)⟩)
        · exact .inr (.inl ⟨i, rfl, by omega, ho, .inr (.inr ⟨hz, by omega, by omega, by unfold Ck.enterE; rw [if_neg ho, if_neg hp, if_neg ha]⟩)⟩)
      · exact .inr (.inr (by omega))
theorem errV_of {e : Int} (h : e ≠ 0) : errV e = .iface 73 (.int .i64 e) := by unfold errV; rw [if_neg h]
set_option maxRecDepth 100000 in
set_option maxHeartbeats 4000000 in
theorem enter_any (w : World) (cb mb : Nat) (c : Ck) (h : ClkAt w cb mb c) (x a : Int) :
    Calls Try.prog 63 #[.pointer (some ⟨cb, 0, none⟩), .int .i64 x, .int .i64 a] w fun ev w' => ev = .returned (errV (c.enterE x a)) ∧ ClkAt w' cb mb (c.enter x a) ∧ Kept (CS cb mb) w w' := by
  have I := Lib.hid h
  have K1 : c.enterE x a ≠ 0 → c.enter x a = c := fun he => by unfold Ck.enter; rw [if_neg he]
  rcases enter_cases c x a with ⟨ho, he⟩ | ⟨i, rfl, hi, ho, hc⟩ | hneg
  · have E := Lib.hid (show (!decide (c.out x)) = false ∧ errV (c.enterE x a) = .iface 73 (.int .i64 1) ∧ c.enter x a = c by exact ⟨by simp [ho], by rw [he]; rfl, K1 (by rw [he]; decide)⟩)
    clear h K1 he
    go_enter Try.func63, Try.ntmps63
    go_wp2_with fail
    refine (has_any _ cb mb c I.out x).mono ?_
    rintro ev w1 ⟨rfl, hs⟩
    rw [E.out.1]
    have I1 := Lib.hid (I.out.low hs)
    have B := Lib.hid hs
    clear hs
    go_wp2
    go_ret
    rw [E.out.2.1, E.out.2.2]
    exact ⟨rfl, I1.out, Kept.of_below B.out⟩
  · have HO := Lib.hid (show (!decide (c.out i)) = true by simp [ho])
    have WX := Lib.hid (show (Lit.int .i64 (i : Int)).wf = true from wfL (by omega) (by have := h.ok.tm; omega))
    have HI := Lib.hid hi
    rcases hc with ⟨hp, he⟩ | ⟨hz, ha, he⟩ | ⟨hz, ha1, ha2, he⟩
    · have E := Lib.hid (show decide (0 < atL c.L i) = true ∧ errV (c.enterE i a) = .iface 73 (.int .i64 13) ∧ c.enter i a = c by exact ⟨by simp [hp], by rw [he]; rfl, K1 (by rw [he]; decide)⟩)
      clear h K1 he hp
      go_enter Try.func63, Try.ntmps63
      go_wp2_with fail
      refine (has_any _ cb mb c I.out i).mono ?_
      rintro ev w1 ⟨rfl, hs⟩
      rw [HO.out]
      have I1 := Lib.hid (I.out.low hs)
      have B := Lib.hid hs
      obtain ⟨D, hm⟩ := (I.out.low hs).map
      have M := Lib.hid hm
      have c3 := (I.out.low hs).c3
      clear hs hm
      go_wp2_with (at_lookup; refine wpList_lookup_own_ok_int _ rfl _ _ 162 rfl 3 3 .i64 keyI Try.underlying162 Try.underlying3 (zeroI _) mb 100 D rfl M.out.own _ _ rfl (keyI_of WX.out) ?_; intro cc hat hwc; rw [M.out.has _ WX.out, E.out.1])
      go_ret
      rw [E.out.2.1, E.out.2.2]
      exact ⟨rfl, I1.out, Kept.of_below B.out⟩
    · have E := Lib.hid (show decide (0 < atL c.L i) = false ∧ errV (c.enterE i a) = .iface 73 (.int .i64 2) ∧ c.enter i a = c by exact ⟨by simp [hz], by rw [he]; rfl, K1 (by rw [he]; decide)⟩)
      clear h K1 he
      by_cases a1 : a < 1
      · clear ha
        go_enter Try.func63, Try.ntmps63
        go_wp2_with fail
        refine (has_any _ cb mb c I.out i).mono ?_
        rintro ev w1 ⟨rfl, hs⟩
        rw [HO.out]
        have I1 := Lib.hid (I.out.low hs)
        have B := Lib.hid hs
        obtain ⟨D, hm⟩ := (I.out.low hs).map
        have M := Lib.hid hm
        have c3 := (I.out.low hs).c3
        have c0 := (I.out.low hs).c0
        clear hs hm
        go_wp2_with (at_lookup; refine wpList_lookup_own_ok_int _ rfl _ _ 162 rfl 3 3 .i64 keyI Try.underlying162 Try.underlying3 (zeroI _) mb 100 D rfl M.out.own _ _ rfl (keyI_of WX.out) ?_; intro cc hat hwc; rw [M.out.has _ WX.out, E.out.1])
        go_ret
        rw [E.out.2.1, E.out.2.2]
        exact ⟨rfl, I1.out, Kept.of_below B.out⟩
      · have a2 : c.n < a := by omega
        have a3 : 1 ≤ a := by omega
        clear ha
        go_enter Try.func63, Try.ntmps63
        go_wp2_with fail
        refine (has_any _ cb mb c I.out i).mono ?_
        rintro ev w1 ⟨rfl, hs⟩
        rw [HO.out]
        have I1 := Lib.hid (I.out.low hs)
        have B := Lib.hid hs
        obtain ⟨D, hm⟩ := (I.out.low hs).map
        have M := Lib.hid hm
        have c3 := (I.out.low hs).c3
        have c0 := (I.out.low hs).c0
        clear hs hm
        go_wp2_with (at_lookup; refine wpList_lookup_own_ok_int _ rfl _ _ 162 rfl 3 3 .i64 keyI Try.underlying162 Try.underlying3 (zeroI _) mb 100 D rfl M.out.own _ _ rfl (keyI_of WX.out) ?_; intro cc hat hwc; rw [M.out.has _ WX.out, E.out.1])
        go_ret
        rw [E.out.2.1, E.out.2.2]
        exact ⟨rfl, I1.out, Kept.of_below B.out⟩
    · have E := Lib.hid (show decide (0 < atL c.L i) = false ∧ errV (c.enterE i a) = .nilIface ∧ c.enter i a = ⟨c.n, c.l, c.L.set i a⟩ by exact ⟨by simp [hz], by rw [he]; rfl, by unfold Ck.enter; rw [if_pos he]; rfl⟩)
      have OK := Lib.hid (show Ck.ok ⟨c.n, c.l, c.L.set i a⟩ by rw [← E.out.2.2]; exact Ck.enter_ok h.ok i a)
      have WA := Lib.hid (show (Lit.int .i64 a).wf = true ∧ atL c.L i = 0 ∧ 0 < a ∧ c.L.length ≤ 64 from ⟨wfL (by omega) (by have := h.ok.nl; have := h.ok.lm; omega), hz, by omega, h.ok.tm⟩)
      clear h K1 he
      go_enter Try.func63, Try.ntmps63
      go_wp2_with fail
      refine (has_any _ cb mb c I.out i).mono ?_
      rintro ev w1 ⟨rfl, hs⟩
      rw [HO.out]
      have I1 := Lib.hid (I.out.low hs)
      have B := Lib.hid hs
      obtain ⟨D, hm⟩ := (I.out.low hs).map
      have M := Lib.hid hm
      have c3 := (I.out.low hs).c3
      have c0 := (I.out.low hs).c0
      clear hs hm
      go_wp2_with (first
        | (at_lookup; refine wpList_lookup_own_ok_int _ rfl _ _ 162 rfl 3 3 .i64 keyI Try.underlying162 Try.underlying3 (zeroI _) mb 100 D rfl M.out.own _ _ rfl (keyI_of WX.out) ?_; intro cc hat hwc; rw [M.out.has _ WX.out, E.out.1])
        | (at_mapUpdate; refine wpList_mapUpdate_own _ rfl _ _ _ 162 rfl 3 3 keyI Try.underlying162 _ mb 100 D rfl M.out.own (by decide) _ _ _ rfl rfl (keyI_of WX.out) _ [] (plainElem_int Try.underlying3 WA.out.1) ?_; intro w2 hown hg))
      have M2 := M.out.put WA.out.2.2.2 HI.out WA.out.2.1 WA.out.2.2.1 hown
      have K2 := Kept.of_grown hg
      go_ret
      rw [E.out.2.1, E.out.2.2]
      have hl : (c.L.set i a).length = c.L.length := by simp
      refine ⟨rfl, ⟨OK.out, ?_, ⟨_, M2⟩⟩, (Kept.of_below (S := CS cb mb) B.out).trans (K2.wide fun k _ e => Or.inr (Option.some.inj e))⟩
      have hb := (K2.block cb I1.out.ltC (fun e => I1.out.ne (Option.some.inj e).symm)).trans I1.out.blk
      rw [← hl] at hb
      exact hb
  · exact absurd (h.ok.at x).1 (by omega)
end Go.Proofs.Ytkkmfacngmginaa
