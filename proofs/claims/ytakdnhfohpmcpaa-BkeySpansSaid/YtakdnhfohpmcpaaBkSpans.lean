/- The walk of the law BkeySpans, out of bkey's contracts. -/
import Derived.Test.YtakdnhfohpmcpaaBkWhole
import Derived.Deep.RegionHeld3
namespace Go.Proofs.Ytakdnhfohpmcpaa
open Go.RowKit

theorem SB.drew {n : Nat} {l h : ByteArray} {u : Bool} {w : World} (s : SB n l h u w) : SB n l h u w.drew := s.step (Below.refl _ _).drew

set_option maxRecDepth 100000 in
set_option maxHeartbeats 4000000 in
theorem spans_core (C : BkC) (al ah bl bh key ml mh : ByteArray) (au bu mu ok x y z : Bool) (w : World)
    (hal : al.size ≤ maxLen) (hah : ah.size ≤ maxLen) (hbl : bl.size ≤ maxLen) (hbh : bh.size ≤ maxLen) (hk : key.size ≤ maxLen) (hml : ml.size ≤ maxLen) (hmh : mh.size ≤ maxLen)
    (hM : ∀ w, Calls Try.prog 26 #[.agg #[.string al, .string ah, .bool au], .agg #[.string bl, .string bh, .bool bu]] w fun ev w' => ev = .returned (.tuple #[.agg #[.string ml, .string mh, .bool mu], .bool ok]) ∧ Below w.heap.size w w')
    (hM' : ∀ w, Calls Try.prog 26 #[.agg #[.string bl, .string bh, .bool bu], .agg #[.string al, .string ah, .bool au]] w fun ev w' => ev = .returned (.tuple #[.agg #[.string ml, .string mh, .bool mu], .bool ok]) ∧ Below w.heap.size w w')
    (hx : inn al.data.toList ah.data.toList au key.data.toList = x) (hy : inn bl.data.toList bh.data.toList bu key.data.toList = y) (hz : inn ml.data.toList mh.data.toList mu key.data.toList = z)
    (hst : mu = true ∧ mh = ⟨#[]⟩ ∧ ok = true ∧ z = (x && y) ∨ mu = false ∧ ok = true ∧ z = (x && y) ∨ mu = false ∧ ml = ⟨#[]⟩ ∧ mh = ⟨#[]⟩ ∧ ok = false ∧ (x && y) = false) :
    Calls Try.prog 8 #[.agg #[.string al, .string ah, .bool au], .agg #[.string bl, .string bh, .bool bu], .string key] w fun ev w' => ev = .returned (.bool true) ∧ Below w.heap.size w w' := by
  have hnot : ∀ (x : Bool) (w : World), (Op.unary .not (.bool x)).run Try.prog w = .ok (.bool (!x)) w := fun _ _ => rfl
  have L : Aside (BkC ∧ al.size ≤ maxLen ∧ ah.size ≤ maxLen ∧ bl.size ≤ maxLen ∧ bh.size ≤ maxLen ∧ key.size ≤ maxLen ∧ ml.size ≤ maxLen ∧ mh.size ≤ maxLen) := ⟨C, hal, hah, hbl, hbh, hk, hml, hmh⟩
  have M := Lib.hid hM
  have M' := Lib.hid hM'
  have X := Lib.hid hx
  have Y := Lib.hid hy
  have Z := Lib.hid hz
  have S := Lib.hid hst
  clear C hal hah hbl hbh hk hml hmh hM hM' hx hy hz hst
  have ha0 := (SB.new al ah au w 39).step (alloc_below _ (.cells #[.string bl, .string bh, .bool bu] 39))
  have hb0 := SB.new bl bh bu (w.alloc (.cells #[.string al, .string ah, .bool au] 39)) 39
  have hw0 : Below w.heap.size w ((w.alloc (.cells #[.string al, .string ah, .bool au] 39)).alloc (.cells #[.string bl, .string bh, .bool bu] 39)) := (alloc_below _ _).trans ((alloc_below _ _).mono (alloc_below _ _).size)
  have a1 := Lib.hid (ha0.step (alloc_below _ (.cells #[.string al, .string ah, .string bl, .string bh, .string key] 9)))
  have b1 := Lib.hid (hb0.step (alloc_below _ (.cells #[.string al, .string ah, .string bl, .string bh, .string key] 9)))
  have w1' := Lib.hid (hw0.trans ((alloc_below _ (.cells #[.string al, .string ah, .string bl, .string bh, .string key] 9)).mono hw0.size))
  rw [show (w.alloc (.cells #[.string al, .string ah, .bool au] 39)).heap.size = w.heap.size + 1 by simp] at b1
  clear ha0 hb0 hw0
  go_enter Try.func8, Try.ntmps8
  go_wp2_with fail
  refine (few_of _ [al, ah, bl, bh, key] _ (strsV_at ((w.alloc (.cells #[.string al, .string ah, .bool au] 39)).alloc (.cells #[.string bl, .string bh, .bool bu] 39)) (w.heap.size + 1 + 1) (by simp) [al, ah, bl, bh, key] 9 (by simp [maxLen]))).mono ?_
  rintro ev w1 ⟨rfl, rfl⟩
  cases hf : fewB [al, ah, bl, bh, key] with
  | false =>
    clear hf
    go_wp2_with fail
    refine (awake_of L.out.1 _).mono ?_
    rintro ev w1 ⟨rfl, hs⟩
    have B : Aside (Below w.heap.size w w1) := w1'.out.trans (hs.mono w1'.out.size)
    clear hs
    go_wp2
    go_ret
    exact ⟨rfl, B.out⟩
  | true =>
    clear hf
    have A0 := a1.out.c0
    have A1 := a1.out.c1
    have A2 := a1.out.c2
    have B0 := b1.out.c0
    have B1 := b1.out.c1
    have B2 := b1.out.c2
    go_wp2_with fail
    generalize ((w.alloc (.cells #[.string al, .string ah, .bool au] 39)).alloc (.cells #[.string bl, .string bh, .bool bu] 39)).alloc (.cells #[.string al, .string ah, .string bl, .string bh, .string key] 9) = w1 at *
    go_region_held3 (fun w' => w'.cell? ⟨w.heap.size, 0, none⟩ = some (.string al) ∧ w'.cell? ⟨w.heap.size, 1, none⟩ = some (.string ah) ∧ w'.cell? ⟨w.heap.size, 2, none⟩ = some (.bool au) ∧ w'.cell? ⟨w.heap.size + 1, 0, none⟩ = some (.string bl) ∧ w'.cell? ⟨w.heap.size + 1, 1, none⟩ = some (.string bh) ∧ w'.cell? ⟨w.heap.size + 1, 2, none⟩ = some (.bool bu))
      (first | exact ⟨by assumption, by assumption, by assumption, by assumption, by assumption, by assumption⟩ | go_keep)
      (first
        | (go_at_call 24; (with_reducible refine (L.out.1.inside al ah key au _ L.out.2.1 L.out.2.2.1 L.out.2.2.2.2.2.1).mono ?_); rintro e x2 ⟨rfl, hs⟩; rw [X.out]; have a2 := Lib.hid (a1.out.drew.step hs); have b2 := Lib.hid (b1.out.drew.step hs); have w2' := Lib.hid (w1'.out.drew.trans (hs.mono w1'.out.drew.size)); have A02 := a2.out.c0; have A12 := a2.out.c1; have A22 := a2.out.c2; have B02 := b2.out.c0; have B12 := b2.out.c1; have B22 := b2.out.c2; clear hs)
        | (go_at_call 24; (with_reducible refine (L.out.1.inside bl bh key bu _ L.out.2.2.2.1 L.out.2.2.2.2.1 L.out.2.2.2.2.2.1).mono ?_); rintro e x3 ⟨rfl, hs⟩; rw [Y.out]; have a3 := Lib.hid (a2.out.step hs); have b3 := Lib.hid (b2.out.step hs); have w3' := Lib.hid (w2'.out.trans (hs.mono w2'.out.size)); have A03 := a3.out.c0; have A13 := a3.out.c1; have A23 := a3.out.c2; have B03 := b3.out.c0; have B13 := b3.out.c1; have B23 := b3.out.c2; clear hs))
    clear a1 b1 w1' A0 A1 A2 B0 B1 B2 a2 b2 w2' A02 A12 A22 B02 B12 B22
    have hxx : (x != x) = false := by simp
    have hyy : (y != y) = false := by simp
    go_wp2_with fail
    refine (refIn_any al ah key au _ L.out.2.1 L.out.2.2.1 L.out.2.2.2.2.2.1).mono ?_
    rintro ev w4 ⟨rfl, hs⟩
    rw [X.out]
    have a4 := Lib.hid (a3.out.step hs)
    have b4 := Lib.hid (b3.out.step hs)
    have w4' := Lib.hid (w3'.out.trans (hs.mono w3'.out.size))
    clear hs A03 A13 A23 B03 B13 B23 a3 b3 w3'
    have A04 := a4.out.c0
    have A14 := a4.out.c1
    have A24 := a4.out.c2
    have B04 := b4.out.c0
    have B14 := b4.out.c1
    have B24 := b4.out.c2
    go_wp2_with fail
    refine (refIn_any bl bh key bu _ L.out.2.2.2.1 L.out.2.2.2.2.1 L.out.2.2.2.2.2.1).mono ?_
    rintro ev w5 ⟨rfl, hs⟩
    rw [Y.out]
    have a5 := Lib.hid (a4.out.step hs)
    have b5 := Lib.hid (b4.out.step hs)
    have w5' := Lib.hid (w4'.out.trans (hs.mono w4'.out.size))
    clear hs A04 A14 A24 B04 B14 B24 a4 b4 w4'
    have A05 := a5.out.c0
    have A15 := a5.out.c1
    have A25 := a5.out.c2
    have B05 := b5.out.c0
    have B15 := b5.out.c1
    have B25 := b5.out.c2
    go_wp2_with fail
    refine (M.out _).mono ?_
    rintro ev w6 ⟨rfl, hs⟩
    have m6 := Lib.hid (SB.new ml mh mu w6 39)
    have a6 := Lib.hid ((a5.out.step hs).step (alloc_below w6 (.cells #[.string ml, .string mh, .bool mu] 39)))
    have b6 := Lib.hid ((b5.out.step hs).step (alloc_below w6 (.cells #[.string ml, .string mh, .bool mu] 39)))
    have w6' := Lib.hid ((w5'.out.trans (hs.mono w5'.out.size)).trans ((alloc_below w6 (.cells #[.string ml, .string mh, .bool mu] 39)).mono (w5'.out.trans (hs.mono w5'.out.size)).size))
    clear hs A05 A15 A25 B05 B15 B25 a5 b5 w5'
    have A06 := a6.out.c0
    have A16 := a6.out.c1
    have A26 := a6.out.c2
    have B06 := b6.out.c0
    have B16 := b6.out.c1
    have B26 := b6.out.c2
    go_wp2_with fail
    generalize w6.heap.size = n6 at *
    refine (M'.out _).mono ?_
    rintro ev w7 ⟨rfl, hs⟩
    have m7 := Lib.hid ((m6.out.step hs).step (alloc_below w7 (.cells #[.string ml, .string mh, .bool mu] 39)))
    have o7 := Lib.hid (SB.new ml mh mu w7 39)
    have w7' := Lib.hid ((w6'.out.trans (hs.mono w6'.out.size)).trans ((alloc_below w7 (.cells #[.string ml, .string mh, .bool mu] 39)).mono (w6'.out.trans (hs.mono w6'.out.size)).size))
    clear hs A06 A16 A26 B06 B16 B26 a6 b6 w6' m6 M M' X Y
    have P0 := m7.out.c0
    have P1 := m7.out.c1
    have P2 := m7.out.c2
    have O0 := o7.out.c0
    have O1 := o7.out.c1
    have O2 := o7.out.c2
    clear o7 hxx hyy
    rcases S.out with ⟨rfl, rfl, rfl, rfl⟩ | ⟨rfl, rfl, rfl⟩ | ⟨rfl, rfl, rfl, rfl, hxy⟩
    · clear S
      go_wp2_with fail
      refine (L.out.1.inside ml ⟨#[]⟩ key true _ L.out.2.2.2.2.2.2.1 L.out.2.2.2.2.2.2.2 L.out.2.2.2.2.2.1).mono ?_
      rintro ev w8 ⟨rfl, hs⟩
      rw [Z.out]
      have w8' := Lib.hid (w7'.out.trans (hs.mono w7'.out.size))
      clear hs Z m7 w7' P0 P1 P2 O0 O1 O2
      cases x with
      | true =>
        have hyy : (y == y) = true := by simp
        rw [Bool.true_and]
        go_wp2_with fail
        refine (awake_of L.out.1 _).mono ?_
        rintro ev w9 ⟨rfl, hs⟩
        have w9' : Aside (Below w.heap.size w w9) := w8'.out.trans (hs.mono w8'.out.size)
        clear hs
        go_wp2
        go_ret
        exact ⟨rfl, w9'.out⟩
      | false =>
        rw [Bool.false_and]
        go_wp2_with fail
        refine (awake_of L.out.1 _).mono ?_
        rintro ev w9 ⟨rfl, hs⟩
        have w9' : Aside (Below w.heap.size w w9) := w8'.out.trans (hs.mono w8'.out.size)
        clear hs
        go_wp2
        go_ret
        exact ⟨rfl, w9'.out⟩
    · clear S
      go_wp2_with fail
      refine (L.out.1.inside ml mh key false _ L.out.2.2.2.2.2.2.1 L.out.2.2.2.2.2.2.2 L.out.2.2.2.2.2.1).mono ?_
      rintro ev w8 ⟨rfl, hs⟩
      rw [Z.out]
      have w8' := Lib.hid (w7'.out.trans (hs.mono w7'.out.size))
      clear hs Z m7 w7' P0 P1 P2 O0 O1 O2
      cases x with
      | true =>
        have hyy : (y == y) = true := by simp
        rw [Bool.true_and]
        go_wp2_with fail
        refine (awake_of L.out.1 _).mono ?_
        rintro ev w9 ⟨rfl, hs⟩
        have w9' : Aside (Below w.heap.size w w9) := w8'.out.trans (hs.mono w8'.out.size)
        clear hs
        go_wp2
        go_ret
        exact ⟨rfl, w9'.out⟩
      | false =>
        rw [Bool.false_and]
        go_wp2_with fail
        refine (awake_of L.out.1 _).mono ?_
        rintro ev w9 ⟨rfl, hs⟩
        have w9' : Aside (Below w.heap.size w w9) := w8'.out.trans (hs.mono w8'.out.size)
        clear hs
        go_wp2
        go_ret
        exact ⟨rfl, w9'.out⟩
    · clear S Z
      cases x with
      | true =>
        cases y with
        | true => cases hxy
        | false =>
          go_wp2_with fail
          refine (awake_of L.out.1 _).mono ?_
          rintro ev w9 ⟨rfl, hs⟩
          have w9' : Aside (Below w.heap.size w w9) := w7'.out.trans (hs.mono w7'.out.size)
          clear hs
          go_wp2
          go_ret
          exact ⟨rfl, w9'.out⟩
      | false =>
        go_wp2_with fail
        refine (awake_of L.out.1 _).mono ?_
        rintro ev w9 ⟨rfl, hs⟩
        have w9' : Aside (Below w.heap.size w w9) := w7'.out.trans (hs.mono w7'.out.size)
        clear hs
        go_wp2
        go_ret
        exact ⟨rfl, w9'.out⟩

theorem maxB_comm (x y : ByteArray) : maxB x y = maxB y x := by
  unfold maxB
  cases h : bef x.data.toList y.data.toList with
  | true => rw [bef_asymm _ _ h]; rfl
  | false =>
    cases h' : bef y.data.toList x.data.toList with
    | true => rfl
    | false =>
      have e := bef_total _ _ h h'
      obtain ⟨⟨x⟩⟩ := x
      obtain ⟨⟨y⟩⟩ := y
      simp at e
      rw [e]
theorem minB_comm (x y : ByteArray) : minB x y = minB y x := by
  unfold minB
  cases h : bef x.data.toList y.data.toList with
  | true => rw [bef_asymm _ _ h]; rfl
  | false =>
    cases h' : bef y.data.toList x.data.toList with
    | true => rfl
    | false =>
      have e := bef_total _ _ h h'
      obtain ⟨⟨x⟩⟩ := x
      obtain ⟨⟨y⟩⟩ := y
      simp at e
      rw [e]
theorem endB_comm (x y : ByteArray) (u v : Bool) (h : (u && v) = false) : endB x y u v = endB y x v u := by
  unfold endB
  cases u <;> cases v <;> simp_all [minB_comm]
theorem bef_maxB (k x y : ByteArray) : bef k.data.toList (maxB x y).data.toList = (bef k.data.toList x.data.toList || bef k.data.toList y.data.toList) := by
  unfold maxB
  cases h : bef x.data.toList y.data.toList with
  | true =>
    rw [if_pos rfl]
    cases h' : bef k.data.toList x.data.toList with
    | true => rw [bef_trans _ _ _ h' h]; rfl
    | false => rfl
  | false =>
    rw [if_neg (by simp)]
    cases h' : bef k.data.toList y.data.toList with
    | false => simp
    | true =>
      rw [Bool.or_true]
      by_cases e : bef y.data.toList x.data.toList = true
      · exact bef_trans _ _ _ h' e
      · rw [bef_total _ _ h (by simpa using e)]; exact h'
theorem bef_minB (k x y : ByteArray) : bef k.data.toList (minB x y).data.toList = (bef k.data.toList x.data.toList && bef k.data.toList y.data.toList) := by
  unfold minB
  cases h : bef y.data.toList x.data.toList with
  | true =>
    rw [if_pos rfl]
    cases h' : bef k.data.toList y.data.toList with
    | true => rw [bef_trans _ _ _ h' h]; rfl
    | false => simp
  | false =>
    rw [if_neg (by simp)]
    cases h' : bef k.data.toList x.data.toList with
    | false => rfl
    | true =>
      rw [Bool.true_and]
      symm
      by_cases e : bef x.data.toList y.data.toList = true
      · exact bef_trans _ _ _ h' e
      · rw [← bef_total _ _ (by simpa using e) h]; exact h'
theorem bef_endB (k x y : ByteArray) (u v : Bool) (h : (u && v) = false) : bef k.data.toList (endB x y u v).data.toList = ((u || bef k.data.toList x.data.toList) && (v || bef k.data.toList y.data.toList)) := by
  unfold endB
  cases u with
  | true => cases v with
    | true => cases h
    | false => simp
  | false => cases v with
    | true => simp
    | false => simp [bef_minB]
theorem maxB_size {x y : ByteArray} {n : Nat} (hx : x.size ≤ n) (hy : y.size ≤ n) : (maxB x y).size ≤ n := by unfold maxB; split <;> assumption
theorem endB_size {x y : ByteArray} {u v : Bool} {n : Nat} (hx : x.size ≤ n) (hy : y.size ≤ n) : (endB x y u v).size ≤ n := by
  unfold endB minB
  repeat' split
  all_goals assumption
theorem bef_mid {a b k : List UInt8} (h1 : bef k a = false) (h2 : bef k b = true) : bef a b = true := by
  by_cases e : bef a k = true
  · exact bef_trans _ _ _ e h2
  · rw [← bef_total _ _ h1 (by simpa using e)]; exact h2
theorem lawSpans (C : BkC) (M : BkM) (al ah bl bh key : ByteArray) (au bu : Bool) (w : World)
    (hal : al.size ≤ maxLen) (hah : ah.size ≤ maxLen) (hbl : bl.size ≤ maxLen) (hbh : bh.size ≤ maxLen) (hk : key.size ≤ maxLen) :
    Calls Try.prog 8 #[.agg #[.string al, .string ah, .bool au], .agg #[.string bl, .string bh, .bool bu], .string key] w fun ev w' => ev = .returned (.bool true) ∧ Below w.heap.size w w' := by
  have h0 : (⟨#[]⟩ : ByteArray).size ≤ maxLen := by decide
  cases hab : (au && bu) with
  | true =>
    obtain ⟨rfl, rfl⟩ : au = true ∧ bu = true := by simpa using hab
    refine spans_core C al ah bl bh key (maxB al bl) ⟨#[]⟩ true true true true _ _ _ w hal hah hbl hbh hk (maxB_size hal hbl) h0 (fun w => M.whole al ah bl bh w) (fun w => by rw [maxB_comm]; exact M.whole bl bh al ah w) rfl rfl rfl (.inl ⟨rfl, rfl, rfl, ?_⟩)
    unfold inn
    rw [bef_maxB]
    cases bef key.data.toList al.data.toList <;> simp
  | false =>
    have hba : (bu && au) = false := by rw [Bool.and_comm]; exact hab
    cases hm : bef (maxB al bl).data.toList (endB ah bh au bu).data.toList with
    | true =>
      refine spans_core C al ah bl bh key (maxB al bl) (endB ah bh au bu) au bu false true _ _ _ w hal hah hbl hbh hk (maxB_size hal hbl) (endB_size hah hbh) (fun w => M.some al ah bl bh au bu w hab hm) (fun w => ?_) rfl rfl rfl (.inr (.inl ⟨rfl, rfl, ?_⟩))
      · rw [maxB_comm, endB_comm _ _ _ _ hab]
        exact M.some bl bh al ah bu au w hba (by rw [maxB_comm, endB_comm _ _ _ _ hba]; exact hm)
      · unfold inn
        rw [bef_maxB, bef_endB _ _ _ _ _ hab]
        cases bef key.data.toList al.data.toList <;> cases bef key.data.toList bl.data.toList <;> cases au <;> simp
    | false =>
      refine spans_core C al ah bl bh key ⟨#[]⟩ ⟨#[]⟩ au bu false false _ _ _ w hal hah hbl hbh hk h0 h0 (fun w => M.none al ah bl bh au bu w hab hm) (fun w => M.none bl bh al ah bu au w hba (by rw [maxB_comm, endB_comm _ _ _ _ hba]; exact hm)) rfl rfl rfl (.inr (.inr ⟨rfl, rfl, rfl, rfl, ?_⟩))
      have key1 : ¬ (bef key.data.toList (maxB al bl).data.toList = false ∧ bef key.data.toList (endB ah bh au bu).data.toList = true) := fun ⟨k1, k2⟩ => by rw [bef_mid k1 k2] at hm; cases hm
      rw [bef_maxB, bef_endB _ _ _ _ _ hab] at key1
      unfold inn
      revert key1
      cases bef key.data.toList al.data.toList <;> cases bef key.data.toList bl.data.toList <;> cases au <;> cases bu <;> simp
end Go.Proofs.Ytakdnhfohpmcpaa
