/- Package commits' calls that only read a table, by contracts (layer 16). -/
import Derived.Test.YtkbfhpgcjljbbaaDoorCmInv
namespace Go.Proofs.YtkbfhpgcjljbbaaDoor
set_option linter.unusedVariables false
set_option linter.unusedSimpArgs false
open Go.RowKit Go.Maps

theorem zeroN (w : World) : (zeroValue 3).run Tryd.prog w = .ok (.int .i64 0) w := by kernel_rfl
theorem zeroS (w : World) : (zeroValue 50).run Tryd.prog w = .ok (.slice none 0 0) w := by kernel_rfl
theorem heldR_inv {v : Value} {d : DataW Value} {ps : List MemPlace} (h : heldR v = some (d, ps)) : d = .held v := (congrArg Prod.fst (Option.some.inj h)).symm
theorem errV_ne {e : Int} (h : e ≠ 0) : errV e = .iface 58 (.int .i64 e) := by unfold errV; rw [if_neg h]
set_option maxRecDepth 100000 in
set_option maxHeartbeats 4000000 in
theorem last16 (w : World) (b cm mm : Nat) (S : Nat → Prop) (t : Tb) (d : Nat) (V : Nat → Value) (h : TabAt w b cm mm S t d V) :
    Calls Tryd.prog 13 #[.pointer (some ⟨b, 0, none⟩)] w fun ev w' => ev = .returned (.int .i64 (t.all.length : Int)) ∧ Below w.heap.size w w' := by
  have c2 := h.c2
  have B := Lib.hid (Below.refl w.heap.size w)
  clear h
  go_enter Tryd.func13, Tryd.ntmps13
  go_wp2
  go_ret
  exact ⟨rfl, B.out⟩
set_option maxRecDepth 100000 in
set_option maxHeartbeats 4000000 in
theorem base16 (w : World) (b cm mm : Nat) (S : Nat → Prop) (t : Tb) (d : Nat) (V : Nat → Value) (h : TabAt w b cm mm S t d V) :
    Calls Tryd.prog 14 #[.pointer (some ⟨b, 0, none⟩)] w fun ev w' => ev = .returned (.int .i64 (t.low : Int)) ∧ Below w.heap.size w w' := by
  have c3 := h.c3
  have B := Lib.hid (Below.refl w.heap.size w)
  clear h
  go_enter Tryd.func14, Tryd.ntmps14
  go_wp2
  go_ret
  exact ⟨rfl, B.out⟩
set_option maxRecDepth 100000 in
set_option maxHeartbeats 4000000 in
theorem count16 (w : World) (b cm mm : Nat) (S : Nat → Prop) (t : Tb) (d : Nat) (V : Nat → Value) (h : TabAt w b cm mm S t d V) :
    Calls Tryd.prog 15 #[.pointer (some ⟨b, 0, none⟩)] w fun ev w' => ev = .returned (.int .i64 ((t.all.length - d : Nat) : Int)) ∧ Below w.heap.size w w' := by
  have c5 := h.c5
  obtain ⟨D, hm⟩ := h.com
  have M := Lib.hid hm
  have SZ := Lib.hid hm.size
  have B := Lib.hid (Below.refl w.heap.size w)
  clear h hm
  go_enter Tryd.func15, Tryd.ntmps15
  go_wp2_with (at_len; refine wpList_len_own _ rfl _ 53 rfl 3 50 Tryd.underlying53 _ cm _ D rfl M.out.own ?_; rw [SZ.out])
  go_ret
  exact ⟨rfl, B.out⟩
set_option maxRecDepth 100000 in
set_option maxHeartbeats 4000000 in
theorem has16 (w : World) (b cm mm : Nat) (S : Nat → Prop) (t : Tb) (d : Nat) (V : Nat → Value) (h : TabAt w b cm mm S t d V) (x : Int) :
    Calls Tryd.prog 44 #[.pointer (some ⟨b, 0, none⟩), .int .i64 x] w fun ev w' => ev = .returned (.bool (t.has x)) ∧ Below w.heap.size w w' := by
  have c0 := h.c0
  have B := Lib.hid (Below.refl w.heap.size w)
  clear h
  by_cases h1 : 0 ≤ x
  · by_cases h2 : x < (t.marks.length : Int)
    · have E := Lib.hid (show t.has x = true by unfold Tb.has; simp [h1, h2])
      go_enter Tryd.func44, Tryd.ntmps44
      go_wp2
      go_ret
      exact ⟨by rw [E.out]; rfl, B.out⟩
    · have E := Lib.hid (show t.has x = false by unfold Tb.has; simp [h2])
      go_enter Tryd.func44, Tryd.ntmps44
      go_wp2
      go_ret
      exact ⟨by rw [E.out]; rfl, B.out⟩
  · have E := Lib.hid (show t.has x = false by unfold Tb.has; simp [h1])
    go_enter Tryd.func44, Tryd.ntmps44
    go_wp2
    go_ret
    exact ⟨by rw [E.out]; rfl, B.out⟩
theorem has_at {t : Tb} {x : Int} (h : t.has x = true) : ∃ i : Nat, x = (i : Int) ∧ i < t.marks.length := by
  unfold Tb.has at h
  rw [Bool.and_eq_true, decide_eq_true_eq, decide_eq_true_eq] at h
  exact ⟨x.toNat, by omega, by omega⟩
set_option maxRecDepth 100000 in
set_option maxHeartbeats 4000000 in
theorem marked16 (w : World) (b cm mm : Nat) (S : Nat → Prop) (t : Tb) (d : Nat) (V : Nat → Value) (h : TabAt w b cm mm S t d V) (x : Int) :
    Calls Tryd.prog 26 #[.pointer (some ⟨b, 0, none⟩), .int .i64 x] w fun ev w' => ev = .returned (.tuple #[.int .i64 (t.marked x), errV (t.hasE x)]) ∧ Below w.heap.size w w' := by
  have I := Lib.hid h
  cases hh : t.has x with
  | false =>
    have E := Lib.hid (show t.has x = false ∧ t.marked x = -1 ∧ errV (t.hasE x) = .iface 58 (.int .i64 1) by unfold Tb.marked Tb.hasE; rw [hh]; exact ⟨rfl, rfl, rfl⟩)
    clear h hh
    go_enter Tryd.func26, Tryd.ntmps26
    go_wp2_with fail
    refine (has16 _ b cm mm S t d V I.out x).mono ?_
    rintro ev w1 ⟨rfl, hs⟩
    rw [E.out.1]
    have B := Lib.hid hs
    clear hs
    go_wp2
    go_ret2
    rw [E.out.2.1, E.out.2.2]
    exact ⟨rfl, B.out⟩
  | true =>
    obtain ⟨i, rfl, hi⟩ := has_at hh
    have M0 := Lib.hid (h.ok.mark (t.marks[i]) (List.getElem_mem hi))
    have AT := Lib.hid (mkAt_get (List.getElem?_eq_getElem hi))
    have WX := Lib.hid (show wfN (i : Int) from wfN_of (by omega) (by have := h.ok.marks.2; omega))
    have E := Lib.hid (show t.has i = true ∧ t.marked i = t.marks[i] ∧ errV (t.hasE i) = .nilIface by
      unfold Tb.marked Tb.hasE; rw [hh]; exact ⟨rfl, by rw [if_pos rfl]; simp [List.getD_eq_getElem?_getD, List.getElem?_eq_getElem hi], rfl⟩)
    generalize t.marks[i] = m at *
    obtain ⟨D, hm⟩ := h.mks
    clear h hh
    have e1 := hm.at_ _ WX.out
    have e2 := hm.has _ WX.out
    by_cases hp : 0 ≤ m
    · have F := Lib.hid (show mkF t.marks (i : Int) = some (.int .i64 m) by unfold mkF; rw [AT.out, if_pos hp])
      rw [F.out] at e1 e2
      clear e1 e2 hm D hi
      go_enter Tryd.func26, Tryd.ntmps26
      go_wp2_with fail
      refine (has16 _ b cm mm S t d V I.out i).mono ?_
      rintro ev w1 ⟨rfl, hs⟩
      rw [E.out.1]
      have B := Lib.hid hs
      obtain ⟨D, hm⟩ := (I.out.step hs).mks
      have M := Lib.hid hm
      have e1 := hm.at_ _ WX.out
      have e2 := hm.has _ WX.out
      rw [F.out] at e1 e2
      have Q2 := Lib.hid (show D.atKey (kN (i : Int)) (.held (.int .i64 0)) = .held (.int .i64 m) ∧ Maps.has D (kN (i : Int)) = true from ⟨e1, e2⟩)
      have c6 := (I.out.step hs).c6
      clear hs hm e1 e2
      go_wp2_with (at_lookup; refine wpList_lookup_own_ok _ rfl _ _ 54 rfl 3 3 keyN Tryd.underlying54 heldR (zeroN _) (.held (.int .i64 0)) [] rfl mm _ D rfl M.out.own _ _ rfl (keyN_of WX.out) ?_; intro v ps hv; rw [Q2.out.2]; obtain rfl : Value.int .i64 m = v := (by have := heldR_inv hv; rw [Q2.out.1] at this; exact DataW.held.inj this))
      go_ret2
      rw [E.out.2.1, E.out.2.2]
      exact ⟨rfl, B.out⟩
    · obtain rfl : m = -1 := by have := M0.out; omega
      have F := Lib.hid (show mkF t.marks (i : Int) = none by unfold mkF; rw [AT.out]; rfl)
      clear e1 e2 hm D hi hp
      go_enter Tryd.func26, Tryd.ntmps26
      go_wp2_with fail
      refine (has16 _ b cm mm S t d V I.out i).mono ?_
      rintro ev w1 ⟨rfl, hs⟩
      rw [E.out.1]
      have B := Lib.hid hs
      obtain ⟨D, hm⟩ := (I.out.step hs).mks
      have M := Lib.hid hm
      have e1 := hm.at_ _ WX.out
      have e2 := hm.has _ WX.out
      rw [F.out] at e1 e2
      have Q2 := Lib.hid (show D.atKey (kN (i : Int)) (.held (.int .i64 0)) = .held (.int .i64 0) ∧ Maps.has D (kN (i : Int)) = false from ⟨e1, e2⟩)
      have c6 := (I.out.step hs).c6
      clear hs hm e1 e2
      go_wp2_with (at_lookup; refine wpList_lookup_own_ok _ rfl _ _ 54 rfl 3 3 keyN Tryd.underlying54 heldR (zeroN _) (.held (.int .i64 0)) [] rfl mm _ D rfl M.out.own _ _ rfl (keyN_of WX.out) ?_; intro v ps hv; rw [Q2.out.2]; obtain rfl : Value.int .i64 0 = v := (by have := heldR_inv hv; rw [Q2.out.1] at this; exact DataW.held.inj this))
      go_ret2
      rw [E.out.2.1, E.out.2.2]
      exact ⟨rfl, B.out⟩
set_option maxRecDepth 100000 in
set_option maxHeartbeats 4000000 in
theorem clone16 (v : Value) (xs : List Wr) (w : World) (hv : SV lPw w v xs) (hl : xs.length ≤ 100000) :
    Calls Tryd.prog 40 #[v] w fun ev w' => ∃ v', ev = .returned v' ∧ OwnS lPw w.heap.size w' v' xs ∧ Below w.heap.size w w' := by
  obtain ⟨a, cap, rfl, hlc, hcm⟩ := hv.lenform
  cases a with
  | none =>
    have hx : xs = [] := by
      obtain ⟨a', cap', h1, h2, h3, h4, -⟩ := hv
      obtain ⟨rfl, -, rfl⟩ := Value.slice.inj h1
      have := h4 rfl
      exact List.eq_nil_of_length_eq_zero (by omega)
    subst hx
    obtain rfl : cap = 0 := by
      obtain ⟨a', cap', h1, h2, h3, h4, -⟩ := hv
      obtain ⟨-, -, rfl⟩ := Value.slice.inj h1
      exact h4 (Value.slice.inj h1).1.symm
    have hq : ∀ w : World, (Go.binOp BinOp.eql 50 (.slice none 0 0) (.slice none 0 0)).run Tryd.prog w = .ok (.bool true) w := fun _ => rfl
    go_enter Tryd.func40, Tryd.ntmps40
    go_wp2
    go_ret
    exact ⟨_, rfl, OwnS.nil lPw _ _, Below.refl _ _⟩
  | some y =>
    have hq : ∀ w : World, (Go.binOp BinOp.eql 50 (.slice (some y) xs.length cap) (.slice none 0 0)).run Tryd.prog w = .ok (.bool false) w := fun _ => rfl
    have hb := alloc_below0 w (.cells #[] lPw.ty)
    have O1 := Lib.hid (show OwnS lPw w.heap.size (w.alloc (.cells #[] lPw.ty)) (.slice (some ⟨w.heap.size, 0, none⟩) 0 0) ([] : List Wr) from OwnS.lit lPw w.heap.size w w.heap.size rfl [] (Nat.le_refl _) (by simp))
    have S1 := Lib.hid (hv.below hb)
    have B1 := Lib.hid hb
    have H1 := Lib.hid (show ([] : List Wr).length + xs.length ≤ 100000 by simpa using hl)
    clear hv hl hb
    simp only [lPw] at B1
    go_enter Tryd.func40, Tryd.ntmps40
    go_wp2_with (refine wpList_appS lPw 50 Tryd.underlying50 lPw_known (by decide) (by decide) rfl (.tmp 5) (.tmp 6) rfl w.heap.size rfl rfl O1.out S1.out H1.out B1.out.size ?_; intro v6 w6 ho6 hg6; have O6 := Lib.hid ho6; have B6 := Lib.hid (B1.out.trans ((Kept.of_grown hg6).below (fun k hk => (O1.out.bounds k hk.symm).1) B1.out.size)); clear ho6 hg6)
    go_ret
    exact ⟨_, rfl, by simpa using O6.out, B6.out⟩
theorem dropL_at {d n i : Nat} (hd : d ≤ n) (hi : i < n) : (dropL d n).getD i false = decide (i < d) := by
  unfold dropL
  rw [List.getD_eq_getElem?_getD]
  by_cases h : i < d
  · rw [List.getElem?_append_left (by simp; exact h), List.getElem?_replicate, if_pos h]
    simp [h]
  · rw [List.getElem?_append_right (by simp; omega), List.getElem?_replicate, if_pos (by simp; omega)]
    simp [h]
set_option maxRecDepth 100000 in
set_option maxHeartbeats 4000000 in
theorem at16 (w : World) (b cm mm : Nat) (S : Nat → Prop) (t : Tb) (d : Nat) (V : Nat → Value) (h : TabAt w b cm mm S t d V) (x : Int) (hlen : t.all.length ≤ 1000) :
    Calls Tryd.prog 18 #[.pointer (some ⟨b, 0, none⟩), .int .i64 x] w fun ev w' => ∃ v', ev = .returned (.tuple #[v', errV (t.atE x)]) ∧ OwnS lPw w.heap.size w' v' (t.atL x) ∧ Below w.heap.size w w' := by
  have I := Lib.hid h
  have c2 := h.c2
  have c5 := h.c5
  have B := Lib.hid (Below.refl w.heap.size w)
  by_cases h1 : x < 1
  · have E := Lib.hid (show errV (t.atE x) = .iface 58 (.int .i64 1) ∧ t.atL x = [] by
      have he : t.atE x = 1 := by unfold Tb.atE; rw [if_pos (.inl h1)]
      exact ⟨by rw [he]; rfl, by unfold Tb.atL; rw [he]; rfl⟩)
    clear h
    go_enter Tryd.func18, Tryd.ntmps18
    go_wp2
    go_ret2
    rw [E.out.1, E.out.2]
    exact ⟨_, rfl, OwnS.nil _ _ _, B.out⟩
  · by_cases h2 : (t.all.length : Int) < x
    · have E := Lib.hid (show errV (t.atE x) = .iface 58 (.int .i64 1) ∧ t.atL x = [] by
        have he : t.atE x = 1 := by unfold Tb.atE; rw [if_pos (.inr h2)]
        exact ⟨by rw [he]; rfl, by unfold Tb.atL; rw [he]; rfl⟩)
      clear h
      go_enter Tryd.func18, Tryd.ntmps18
      go_wp2
      go_ret2
      rw [E.out.1, E.out.2]
      exact ⟨_, rfl, OwnS.nil _ _ _, B.out⟩
    · obtain ⟨i, hx⟩ : ∃ i : Nat, x = ((i + 1 : Nat) : Int) := ⟨(x - 1).toNat, by omega⟩
      have hi : i < t.all.length := by omega
      have WX := Lib.hid (show wfN x from wfN_of (by omega) (by omega))
      have HX := Lib.hid (show x.toNat = i + 1 by omega)
      have DR : t.dropped.getD (x - 1).toNat false = decide (i < d) := by
        rw [h.drp, show (x - 1).toNat = i by omega]; exact dropL_at h.dn hi
      obtain ⟨D, hm⟩ := h.com
      have e1 := hm.at_ _ WX.out
      have e2 := hm.has _ WX.out
      have M := Lib.hid hm
      clear hm
      by_cases hd : i < d
      · have E := Lib.hid (show errV (t.atE x) = .iface 58 (.int .i64 6) ∧ t.atL x = [] by
          have he : t.atE x = 6 := by unfold Tb.atE; rw [if_neg (by omega), DR]; simp [hd]
          exact ⟨by rw [he]; rfl, by unfold Tb.atL; rw [he]; rfl⟩)
        rw [comF_out (by omega)] at e1 e2
        have Q2 := Lib.hid (show D.atKey (kN x) (.held (.slice none 0 0)) = .held (.slice none 0 0) ∧ Maps.has D (kN x) = false from ⟨e1, e2⟩)
        clear h e1 e2 DR hd hi hx
        go_enter Tryd.func18, Tryd.ntmps18
        go_wp2_with (at_lookup; refine wpList_lookup_own_ok _ rfl _ _ 53 rfl 3 50 keyN Tryd.underlying53 heldR (zeroS _) (.held (.slice none 0 0)) [] rfl cm _ D rfl M.out.own _ _ rfl (keyN_of WX.out) ?_; intro v ps hv; rw [Q2.out.2]; obtain rfl : Value.slice none 0 0 = v := (by have := heldR_inv hv; rw [Q2.out.1] at this; exact DataW.held.inj this))
        go_ret2
        rw [E.out.1, E.out.2]
        exact ⟨_, rfl, OwnS.nil _ _ _, B.out⟩
      · obtain ⟨xs, hxs⟩ : ∃ xs, t.all[i]? = some xs := ⟨_, List.getElem?_eq_getElem hi⟩
        have E := Lib.hid (show errV (t.atE x) = .nilIface ∧ t.atL x = xs by
          have he : t.atE x = 0 := by unfold Tb.atE; rw [if_neg (by omega), DR]; simp [hd]
          refine ⟨by rw [he]; rfl, ?_⟩
          unfold Tb.atL
          rw [if_pos he, show (x - 1).toNat = i by omega, List.getD_eq_getElem?_getD, hxs]
          rfl)
        have W := Lib.hid (h.wr i xs hxs (by omega))
        have LX := Lib.hid (show xs.length ≤ 100000 by have := (h.ok.small xs (List.mem_of_getElem? hxs)).2; omega)
        rw [comF_in (x := x) (by omega) (by omega), HX.out] at e1 e2
        have Q2 := Lib.hid (show D.atKey (kN x) (.held (.slice none 0 0)) = .held (V (i + 1)) ∧ Maps.has D (kN x) = true from ⟨e1, e2⟩)
        clear h e1 e2 DR hd hi hxs hx
        generalize V (i + 1) = u at *
        go_enter Tryd.func18, Tryd.ntmps18
        go_wp2_with (at_lookup; refine wpList_lookup_own_ok _ rfl _ _ 53 rfl 3 50 keyN Tryd.underlying53 heldR (zeroS _) (.held (.slice none 0 0)) [] rfl cm _ D rfl M.out.own _ _ rfl (keyN_of WX.out) ?_; intro v ps hv; rw [Q2.out.2]; obtain rfl : u = v := (by have := heldR_inv hv; rw [Q2.out.1] at this; exact DataW.held.inj this))
        refine (clone16 _ xs _ W.out.1.sv LX.out).mono ?_
        rintro ev w1 ⟨v', rfl, ho, hs⟩
        have O := Lib.hid ho
        have B1 := Lib.hid hs
        clear ho hs
        go_wp2
        go_ret2
        rw [E.out.1, E.out.2]
        exact ⟨_, rfl, O.out, B1.out⟩
end Go.Proofs.YtkbfhpgcjljbbaaDoor
