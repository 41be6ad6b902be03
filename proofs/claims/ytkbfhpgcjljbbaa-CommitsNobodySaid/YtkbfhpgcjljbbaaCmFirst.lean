/- The walk of the law CommitsFirst. -/
import Derived.Test.YtkbfhpgcjljbbaaCmClear
import Derived.Test.YtkbfhpgcjljbbaaCmRef
namespace Go.Proofs.Ytkbfhpgcjljbbaa
set_option linter.unusedVariables false
set_option linter.unusedSimpArgs false
open Go.RowKit

def lDs : Lay Sl := ⟨26, 1, fun s => [s.v], fun _ => rfl, fun x u h => by simp at h; subst h; rfl⟩
/-- v reads as these lists of writes of the document's -/
def DsV (w : World) (v : Value) (ps : List (List Wr)) : Prop := ∃ ss : List Sl, SV lDs w v ss ∧ ss.length = ps.length ∧ ∀ (i : Nat) (s : Sl) (p : List Wr), ss[i]? = some s → ps[i]? = some p → WrV lDw w s.v p
theorem DsV.below {w w' : World} {v : Value} {ps : List (List Wr)} (h : DsV w v ps) (hb : Below w.heap.size w w') : DsV w' v ps := by
  obtain ⟨ss, h1, h2, h3⟩ := h
  exact ⟨ss, h1.below hb, h2, fun i s p hs hp => (h3 i s p hs hp).below hb⟩
theorem DsV.lenform {w : World} {v : Value} {ps : List (List Wr)} (h : DsV w v ps) : ∃ a cap, v = .slice a ps.length cap ∧ ps.length ≤ cap ∧ cap ≤ maxLen := by
  obtain ⟨ss, h1, h2, -⟩ := h
  obtain ⟨a, cap, e, h3, h4⟩ := h1.lenform
  rw [h2] at e h3
  exact ⟨a, cap, e, h3, h4⟩
theorem DsV.elem {w : World} {a : Option Addr} {n cap : Nat} {ps : List (List Wr)} (h : DsV w (.slice a n cap) ps) {i : Nat} {p : List Wr} (hi : ps[i]? = some p) :
    ∃ b off aa c, a = some ⟨b, off, none⟩ ∧ w.cell? ⟨b, off + i, none⟩ = some (.slice aa p.length c) ∧ WrV lDw w (.slice aa p.length c) p := by
  obtain ⟨ss, h1, h2, h3⟩ := h
  have hlt := (List.getElem?_eq_some_iff.1 hi).1
  obtain ⟨b, off, rfl⟩ := h1.addr (by omega)
  obtain ⟨⟨aa, m, c⟩, hs⟩ : ∃ s, ss[i]? = some s := ⟨_, List.getElem?_eq_getElem (by omega)⟩
  have hw := h3 i _ p hs hi
  obtain ⟨a2, c2, e, -, -⟩ := hw.1.lenform
  obtain ⟨rfl, rfl, rfl⟩ : aa = a2 ∧ m = p.length ∧ c = c2 := by simpa [Sl.v] using e
  have hc := h1.cellAt hs (j := 0) (u := Sl.v (aa, p.length, c)) rfl
  exact ⟨b, off, aa, c, rfl, by simpa [lDs, Sl.v] using hc, hw⟩
/-- what the table of the law has between two steps -/
structure FirstT (t : Tb) : Prop where
  limit : t.limit = 9
  len : t.all.length ≤ 1
  holder : t.holder = -1
  marks : t.marks.length = 2
theorem FirstT.start : FirstT (Tb.new (2 : Int).toNat 9) := ⟨rfl, Nat.zero_le _, rfl, rfl⟩
theorem FirstT.bool {t : Tb} (h : FirstT t) (p : List Wr) : t.appB 0 p = (Tb.may p && decide (t.all.length = 0)) := by
  have h1 := h.limit
  have h2 := h.len
  unfold Tb.appB
  rw [h1, show decide ((t.all.length : Int) = 9) = false from decide_eq_false (by omega)]
  by_cases h0 : t.all.length = 0
  · rw [decide_eq_true h0, decide_eq_true (show (0 : Int) = (t.all.length : Int) by omega)]; simp
  · rw [decide_eq_false h0, decide_eq_false (show ¬ (0 : Int) = (t.all.length : Int) by omega)]; simp
theorem FirstT.code {t : Tb} (h : FirstT t) (p : List Wr) : t.appE 0 p = if Tb.may p then 0 else 1 := by
  have h1 := h.limit
  have h2 := h.len
  unfold Tb.appE
  cases Tb.may p with
  | false => rfl
  | true =>
    rw [if_neg (by simp), h1]
    by_cases h0 : (0 : Int) ≠ (t.all.length : Int)
    · rw [if_pos h0]; rfl
    · rw [if_neg h0, if_neg (by omega)]; rfl
theorem FirstT.next {t : Tb} (h : FirstT t) (p : List Wr) : FirstT (t.app 0 p) := by
  unfold Tb.app
  split
  · next hb =>
    rw [h.bool] at hb
    simp only [Bool.and_eq_true, decide_eq_true_eq] at hb
    exact ⟨h.limit, by show (t.all ++ [p]).length ≤ 1; simp [hb.2], h.holder, h.marks⟩
  · exact h
theorem FirstT.count {t : Tb} (_ : FirstT t) (p : List Wr) : (t.app 0 p).all.length = t.all.length + if t.appB 0 p then 1 else 0 := by
  unfold Tb.app
  cases t.appB 0 p <;> simp
set_option maxRecDepth 100000 in
set_option maxHeartbeats 4000000 in
theorem lawFirst16 (C : CmC) (v : Value) (ps : List (List Wr)) (w : World) (hv : DsV w v ps) :
    Calls Try.prog 3 #[v] w fun ev w' => ev = .returned (.bool true) ∧ Below w.heap.size w w' := by
  obtain ⟨va, vc, rfl, vlc, vcm⟩ := hv.lenform
  obtain ⟨n, hn⟩ : ∃ n, ps.length = n := ⟨_, rfl⟩
  rw [hn] at hv vlc ⊢
  have V := Lib.hid hv
  have LN := Lib.hid hn
  have B0 := Lib.hid (Below.refl w.heap.size w)
  unfold maxLen at vcm
  clear hv hn
  by_cases hn60 : n ≤ 60
  · go_enter Try.func3, Try.ntmps3
    go_wp2_with fail
    refine (C.T.new 2 9 _ (by decide)).mono ?_
    rintro ev w1 ⟨a, S1, rfl, hI, hS, hs⟩
    have I1 := Lib.hid hI
    have B1 := Lib.hid (show Below w.heap.size w w1 ∧ (∀ k, S1 k → w.heap.size ≤ k) from ⟨hs, hS⟩)
    clear hI hS hs
    go_wp2
    go_loopg [4, 27] n (fun c d i wr => ∃ (k : Nat) (t : Tb) (S : Nat → Prop), k + c = n ∧ i = .int .i64 k ∧ d = .int .i64 (t.all.length : Int) ∧ FirstT t ∧ C.T.Inv wr a S t ∧ Below w.heap.size w wr ∧ (∀ k, S k → w.heap.size ≤ k))
    case atStart => exact ⟨0, _, S1, by omega, rfl, rfl, FirstT.start, I1.out, B1.out.1, B1.out.2⟩
    case round =>
      obtain ⟨k, t, S, hk, rfl, rfl, hF, hI, hB, hS⟩ := hrel
      have A := Lib.hid (show Below w.heap.size w wr ∧ k + gk = n ∧ (∀ k, S k → w.heap.size ≤ k) from ⟨hB, hk, hS⟩)
      have F := Lib.hid hF
      have I := Lib.hid hI
      clear hF hI hB hS I1 B1
      by_cases hlt : k < n
      · obtain ⟨p, hp⟩ : ∃ p, ps[k]? = some p := ⟨_, List.getElem?_eq_getElem (by rw [LN.out]; exact hlt)⟩
        obtain ⟨b, off, aa, c, rfl, e0, hw⟩ := (V.out.below A.out.1).elem hp
        obtain ⟨m, hm⟩ : ∃ m, p.length = m := ⟨_, rfl⟩
        have LM := Lib.hid hm
        have W0 := Lib.hid hw
        have mm : m ≤ 9223372036854775807 := by obtain ⟨a2, c2, -, h1, h2⟩ := hw.1.lenform; unfold maxLen at h2; omega
        rw [hm] at e0 W0
        have j3 : (0 : Int) ≤ (k : Int) := by omega
        have j4 : (k : Int) < (n : Int) := by omega
        clear hp hw hm
        go_wp2_with fail
        refine (wfew_any _ p _ W0.out).mono ?_
        rintro ev w2 ⟨rfl, hs⟩
        have W2 := Lib.hid (W0.out.below hs)
        have I2 := Lib.hid (C.T.step I.out hs)
        have B2 := Lib.hid (A.out.1.trans (hs.mono A.out.1.size))
        clear hs I W0 e0
        cases hf : fewW p with
        | false =>
          clear hf
          go_wp2_with fail
          refine (awake16 C.T _).mono ?_
          rintro ev wz ⟨rfl, hs⟩
          have BZ := Lib.hid (B2.out.trans (hs.mono B2.out.size))
          clear hs
          go_wp2
          go_ret
          exact ⟨rfl, BZ.out⟩
        | true =>
          have K := Lib.hid (show m ≤ 40 by rw [← LM.out]; exact fewW_len hf)
          clear hf
          go_wp2_with fail
          refine (refRight16_any _ p _ W2.out).mono ?_
          rintro ev w3 ⟨rfl, hs⟩
          have W3 := Lib.hid (W2.out.below hs)
          have I3 := Lib.hid (C.T.step I2.out hs)
          have B3 := Lib.hid (B2.out.trans (hs.mono B2.out.size))
          clear hs I2 W2 B2
          cases hr : wRight p with
          | false =>
            have HR := Lib.hid hr
            have MAY := Lib.hid (show Tb.may p = false by unfold Tb.may; rw [hr]; simp)
            clear hr
            go_wp2_with fail
            refine (given_any _ p _ W3.out (by rw [LM.out]; have := K.out; omega)).mono ?_
            rintro ev w4 ⟨gv, rfl, ho, hs⟩
            obtain ⟨ga, gc, rfl, -, -⟩ := ho.lenN LM.out
            have G4 := Lib.hid (show WrV lPw w4 (.slice ga _ gc) p from ⟨ho.sv, W3.out.2⟩)
            have W4 := Lib.hid (W3.out.below hs)
            have I4 := Lib.hid (C.T.step I3.out hs)
            have B4 := Lib.hid (B3.out.trans (hs.mono B3.out.size))
            clear hs ho W3 I3 B3
            go_wp2_with fail
            refine (C.W.right _ p _ G4.out (by rw [LM.out]; have := K.out; omega)).mono ?_
            rintro ev w5 ⟨rfl, hs⟩
            rw [HR.out]
            have W5 := Lib.hid (W4.out.below hs)
            have I5 := Lib.hid (C.T.step I4.out hs)
            have B5 := Lib.hid (B4.out.trans (hs.mono B4.out.size))
            clear hs W4 I4 B4 G4
            go_wp2_with fail
            refine (refRight16_any _ p _ W5.out).mono ?_
            rintro ev w6 ⟨rfl, hs⟩
            rw [HR.out]
            have W6 := Lib.hid (W5.out.below hs)
            have I6 := Lib.hid (C.T.step I5.out hs)
            have B6 := Lib.hid (B5.out.trans (hs.mono B5.out.size))
            clear hs W5 I5 B5
            go_wp2_with fail
            refine (given_any _ p _ W6.out (by rw [LM.out]; have := K.out; omega)).mono ?_
            rintro ev w7 ⟨gv, rfl, ho, hs⟩
            obtain ⟨ha, hc, rfl, -, -⟩ := ho.lenN LM.out
            have G7 := Lib.hid (show WrV lPw w7 (.slice ha _ hc) p from ⟨ho.sv, W6.out.2⟩)
            have I7 := Lib.hid (C.T.step I6.out hs)
            have B7 := Lib.hid (B6.out.trans (hs.mono B6.out.size))
            clear hs ho W6 I6 B6
            go_wp2_with fail
            refine (C.T.append a S t 0 _ p _ I7.out (by have := F.out.len; omega) G7.out (by rw [LM.out]; have := K.out; omega)).mono ?_
            rintro ev w8 ⟨S8, rfl, hI, hk, hS⟩
            have M8 := Lib.hid (mut_step A.out.2.2 B7.out B7.out.size hk hS)
            have I8 := Lib.hid hI
            clear hI hk hS I7 G7
            have F8 := Lib.hid (F.out.next p)
            obtain ⟨dn, hdn⟩ : ∃ d, t.all.length = d := ⟨_, rfl⟩
            have DN := Lib.hid hdn
            clear hdn
            have E8 := Lib.hid (show t.appB 0 p = false from by simp only [F.out.bool, MAY.out, Bool.false_and, Bool.true_and])
            have C8 := Lib.hid (show t.appE 0 p = 1 from by rw [F.out.code, MAY.out] <;> rfl)
            have N8 := Lib.hid (show (t.app 0 p).all.length = dn from by rw [F.out.count, E8.out, DN.out] <;> rfl)
            rw [E8.out, C8.out, DN.out]
            unfold two errV
            go_wp2
            go_roundg (n - (k + 1))
            case measure => have := A.out.2.1; omega
            case rel => exact ⟨k + 1, t.app 0 p, S8, by omega, by go_num, by rw [N8.out] <;> rfl, F8.out, I8.out, M8.out.1, M8.out.2.1⟩
          | true =>
            have HR := Lib.hid hr
            clear hr
            by_cases h0 : m = 0
            · subst h0
              have MAY := Lib.hid (show Tb.may p = false by unfold Tb.may; rw [List.eq_nil_of_length_eq_zero LM.out]; rfl)
              go_wp2_with fail
              refine (given_any _ p _ W3.out (by rw [LM.out]; have := K.out; omega)).mono ?_
              rintro ev w4 ⟨gv, rfl, ho, hs⟩
              obtain ⟨ga, gc, rfl, -, -⟩ := ho.lenN LM.out
              have G4 := Lib.hid (show WrV lPw w4 (.slice ga _ gc) p from ⟨ho.sv, W3.out.2⟩)
              have W4 := Lib.hid (W3.out.below hs)
              have I4 := Lib.hid (C.T.step I3.out hs)
              have B4 := Lib.hid (B3.out.trans (hs.mono B3.out.size))
              clear hs ho W3 I3 B3
              go_wp2_with fail
              refine (C.W.right _ p _ G4.out (by rw [LM.out]; have := K.out; omega)).mono ?_
              rintro ev w5 ⟨rfl, hs⟩
              rw [HR.out]
              have W5 := Lib.hid (W4.out.below hs)
              have I5 := Lib.hid (C.T.step I4.out hs)
              have B5 := Lib.hid (B4.out.trans (hs.mono B4.out.size))
              clear hs W4 I4 B4 G4
              go_wp2_with fail
              refine (refRight16_any _ p _ W5.out).mono ?_
              rintro ev w6 ⟨rfl, hs⟩
              rw [HR.out]
              have W6 := Lib.hid (W5.out.below hs)
              have I6 := Lib.hid (C.T.step I5.out hs)
              have B6 := Lib.hid (B5.out.trans (hs.mono B5.out.size))
              clear hs W5 I5 B5
              go_wp2_with fail
              refine (given_any _ p _ W6.out (by rw [LM.out]; have := K.out; omega)).mono ?_
              rintro ev w7 ⟨gv, rfl, ho, hs⟩
              obtain ⟨ha, hc, rfl, -, -⟩ := ho.lenN LM.out
              have G7 := Lib.hid (show WrV lPw w7 (.slice ha _ hc) p from ⟨ho.sv, W6.out.2⟩)
              have I7 := Lib.hid (C.T.step I6.out hs)
              have B7 := Lib.hid (B6.out.trans (hs.mono B6.out.size))
              clear hs ho W6 I6 B6
              go_wp2_with fail
              refine (C.T.append a S t 0 _ p _ I7.out (by have := F.out.len; omega) G7.out (by rw [LM.out]; have := K.out; omega)).mono ?_
              rintro ev w8 ⟨S8, rfl, hI, hk, hS⟩
              have M8 := Lib.hid (mut_step A.out.2.2 B7.out B7.out.size hk hS)
              have I8 := Lib.hid hI
              clear hI hk hS I7 G7
              have F8 := Lib.hid (F.out.next p)
              obtain ⟨dn, hdn⟩ : ∃ d, t.all.length = d := ⟨_, rfl⟩
              have DN := Lib.hid hdn
              clear hdn
              have E8 := Lib.hid (show t.appB 0 p = false from by simp only [F.out.bool, MAY.out, Bool.false_and, Bool.true_and])
              have C8 := Lib.hid (show t.appE 0 p = 1 from by rw [F.out.code, MAY.out] <;> rfl)
              have N8 := Lib.hid (show (t.app 0 p).all.length = dn from by rw [F.out.count, E8.out, DN.out] <;> rfl)
              rw [E8.out, C8.out, DN.out]
              unfold two errV
              go_wp2
              go_roundg (n - (k + 1))
              case measure => have := A.out.2.1; omega
              case rel => exact ⟨k + 1, t.app 0 p, S8, by omega, by go_num, by rw [N8.out] <;> rfl, F8.out, I8.out, M8.out.1, M8.out.2.1⟩
            · have MAY := Lib.hid (show Tb.may p = true by
                unfold Tb.may
                rw [HR.out]
                have := LM.out
                cases p with
                | nil => simp at this; omega
                | cons x xs => rfl)
              have h0' : (0 : Int) < (m : Int) := by omega
              go_wp2_with fail
              refine (given_any _ p _ W3.out (by rw [LM.out]; have := K.out; omega)).mono ?_
              rintro ev w4 ⟨gv, rfl, ho, hs⟩
              obtain ⟨ga, gc, rfl, -, -⟩ := ho.lenN LM.out
              have G4 := Lib.hid (show WrV lPw w4 (.slice ga _ gc) p from ⟨ho.sv, W3.out.2⟩)
              have W4 := Lib.hid (W3.out.below hs)
              have I4 := Lib.hid (C.T.step I3.out hs)
              have B4 := Lib.hid (B3.out.trans (hs.mono B3.out.size))
              clear hs ho W3 I3 B3
              go_wp2_with fail
              refine (C.W.right _ p _ G4.out (by rw [LM.out]; have := K.out; omega)).mono ?_
              rintro ev w5 ⟨rfl, hs⟩
              rw [HR.out]
              have W5 := Lib.hid (W4.out.below hs)
              have I5 := Lib.hid (C.T.step I4.out hs)
              have B5 := Lib.hid (B4.out.trans (hs.mono B4.out.size))
              clear hs W4 I4 B4 G4
              go_wp2_with fail
              refine (refRight16_any _ p _ W5.out).mono ?_
              rintro ev w6 ⟨rfl, hs⟩
              rw [HR.out]
              have W6 := Lib.hid (W5.out.below hs)
              have I6 := Lib.hid (C.T.step I5.out hs)
              have B6 := Lib.hid (B5.out.trans (hs.mono B5.out.size))
              clear hs W5 I5 B5
              go_wp2_with fail
              refine (given_any _ p _ W6.out (by rw [LM.out]; have := K.out; omega)).mono ?_
              rintro ev w7 ⟨gv, rfl, ho, hs⟩
              obtain ⟨ha, hc, rfl, -, -⟩ := ho.lenN LM.out
              have G7 := Lib.hid (show WrV lPw w7 (.slice ha _ hc) p from ⟨ho.sv, W6.out.2⟩)
              have I7 := Lib.hid (C.T.step I6.out hs)
              have B7 := Lib.hid (B6.out.trans (hs.mono B6.out.size))
              clear hs ho W6 I6 B6
              go_wp2_with fail
              refine (C.T.append a S t 0 _ p _ I7.out (by have := F.out.len; omega) G7.out (by rw [LM.out]; have := K.out; omega)).mono ?_
              rintro ev w8 ⟨S8, rfl, hI, hk, hS⟩
              have M8 := Lib.hid (mut_step A.out.2.2 B7.out B7.out.size hk hS)
              have I8 := Lib.hid hI
              clear hI hk hS I7 G7
              have F8 := Lib.hid (F.out.next p)
              by_cases hd : t.all.length = 0
              · have DN := Lib.hid hd
                clear hd
                have E8 := Lib.hid (show t.appB 0 p = true from by simp only [F.out.bool, MAY.out, show decide (t.all.length = 0) = true from decide_eq_true DN.out, Bool.false_and, Bool.true_and])
                have C8 := Lib.hid (show t.appE 0 p = 0 from by rw [F.out.code, MAY.out] <;> rfl)
                have N8 := Lib.hid (show (t.app 0 p).all.length = 0 + 1 from by rw [F.out.count, E8.out, DN.out] <;> rfl)
                rw [E8.out, C8.out, DN.out]
                unfold two errV
                go_wp2
                go_roundg (n - (k + 1))
                case measure => have := A.out.2.1; omega
                case rel => exact ⟨k + 1, t.app 0 p, S8, by omega, by go_num, by rw [N8.out] <;> rfl, F8.out, I8.out, M8.out.1, M8.out.2.1⟩
              · have DN := Lib.hid (show t.all.length = 1 by have := F.out.len; omega)
                clear hd
                have E8 := Lib.hid (show t.appB 0 p = false from by simp only [F.out.bool, MAY.out, show decide (t.all.length = 0) = false from decide_eq_false (by have := DN.out; omega), Bool.false_and, Bool.true_and])
                have C8 := Lib.hid (show t.appE 0 p = 0 from by rw [F.out.code, MAY.out] <;> rfl)
                have N8 := Lib.hid (show (t.app 0 p).all.length = 1 from by rw [F.out.count, E8.out, DN.out] <;> rfl)
                rw [E8.out, C8.out, DN.out]
                unfold two errV
                go_wp2
                go_roundg (n - (k + 1))
                case measure => have := A.out.2.1; omega
                case rel => exact ⟨k + 1, t.app 0 p, S8, by omega, by go_num, by rw [N8.out] <;> rfl, F8.out, I8.out, M8.out.1, M8.out.2.1⟩
      · obtain rfl : n = k := by have := A.out.2.1; omega
        have dl := F.out.len
        obtain ⟨dn, hdn⟩ : ∃ d, t.all.length = d := ⟨_, rfl⟩
        have DN := Lib.hid hdn
        rw [hdn]
        clear dl hdn
        have g1 : t.grabB 1 = true := by unfold Tb.grabB Tb.has; rw [F.out.holder, F.out.marks]; decide
        have g2 : t.hasE 1 = 0 := by unfold Tb.hasE Tb.has; rw [F.out.marks]; decide
        have u1 : t.grab 1 = { t with holder := 1 } := by unfold Tb.grab; rw [if_pos g1]
        have g3 : ({ t with holder := 1 } : Tb).grabB 0 = false := by unfold Tb.grabB; simp
        have g4 : ({ t with holder := 1 } : Tb).hasE 0 = 0 := by unfold Tb.hasE Tb.has; show (if (decide ((0 : Int) ≤ 0) && decide ((0 : Int) < (t.marks.length : Int))) = true then (0 : Int) else 1) = 0; rw [F.out.marks]; decide
        have u2 : ({ t with holder := 1 } : Tb).grab 0 = { t with holder := 1 } := by unfold Tb.grab; rw [g3]; rfl
        have g5 : ({ t with holder := 1 } : Tb).yieldB 0 = false := by unfold Tb.yieldB; simp
        have u3 : ({ t with holder := 1 } : Tb).yield_ 0 = { t with holder := 1 } := by unfold Tb.yield_; rw [g5]; rfl
        have g6 : ({ t with holder := 1 } : Tb).yieldB 1 = true := by unfold Tb.yieldB Tb.has; show (decide ((0 : Int) ≤ 1) && decide ((1 : Int) < (t.marks.length : Int)) && decide ((1 : Int) = 1)) = true; rw [F.out.marks]; decide
        have g7 : ({ t with holder := 1 } : Tb).hasE 1 = 0 := g2
        have u4 : ({ t with holder := 1 } : Tb).yield_ 1 = { t with holder := -1 } := by unfold Tb.yield_; rw [if_pos g6]
        have g8 : ({ t with holder := -1 } : Tb).grabB 0 = true := by unfold Tb.grabB Tb.has; show (decide ((0 : Int) ≤ 0) && decide ((0 : Int) < (t.marks.length : Int)) && decide ((-1 : Int) < 0)) = true; rw [F.out.marks]; decide
        have g9 : ({ t with holder := -1 } : Tb).hasE 0 = 0 := g4
        have u5 : ({ t with holder := -1 } : Tb).grab 0 = { t with holder := 0 } := by unfold Tb.grab; rw [if_pos g8]
        have GG := Lib.hid (show _ ∧ _ ∧ _ ∧ _ ∧ _ ∧ _ ∧ _ ∧ _ ∧ _ ∧ _ ∧ _ ∧ _ ∧ _ ∧ _ from ⟨g1, g2, u1, g3, g4, u2, g5, u3, g6, g7, u4, g8, g9, u5⟩)
        have HH := Lib.hid (show _ ∧ _ from ⟨A.out.1, A.out.2.2⟩)
        clear g1 g2 u1 g3 g4 u2 g5 u3 g6 g7 u4 g8 g9 u5 hk hlt
        go_wp2_with fail
        refine (C.T.grab a S t 1 _ I.out).mono ?_
        rintro ev x1 ⟨T1, rfl, hI, hk, hS⟩
        rw [GG.out.2.2.1] at hI
        rw [GG.out.1, GG.out.2.1]
        have M1 := Lib.hid (mut_step HH.out.2 HH.out.1 HH.out.1.size hk hS)
        have J1 := Lib.hid hI
        clear hI hk hS
        unfold two errV
        go_wp2_with fail
        refine (C.T.grab a T1 { t with holder := 1 } 0 _ J1.out).mono ?_
        rintro ev x2 ⟨T2, rfl, hI, hk, hS⟩
        rw [GG.out.2.2.2.2.2.1] at hI
        rw [GG.out.2.2.2.1, GG.out.2.2.2.2.1]
        have M2 := Lib.hid (mut_step M1.out.2.1 M1.out.1 M1.out.1.size hk hS)
        have J2 := Lib.hid hI
        clear hI hk hS
        unfold two errV
        go_wp2_with fail
        refine (C.T.yield_ a T2 { t with holder := 1 } 0 _ J2.out).mono ?_
        rintro ev x3 ⟨T3, rfl, hI, hk, hS⟩
        rw [GG.out.2.2.2.2.2.2.2.1] at hI
        rw [GG.out.2.2.2.2.2.2.1, GG.out.2.2.2.2.1]
        have M3 := Lib.hid (mut_step M2.out.2.1 M2.out.1 M2.out.1.size hk hS)
        have J3 := Lib.hid hI
        clear hI hk hS
        unfold two errV
        go_wp2_with fail
        refine (C.T.yield_ a T3 { t with holder := 1 } 1 _ J3.out).mono ?_
        rintro ev x4 ⟨T4, rfl, hI, hk, hS⟩
        rw [GG.out.2.2.2.2.2.2.2.2.2.2.1] at hI
        rw [GG.out.2.2.2.2.2.2.2.2.1, GG.out.2.2.2.2.2.2.2.2.2.1]
        have M4 := Lib.hid (mut_step M3.out.2.1 M3.out.1 M3.out.1.size hk hS)
        have J4 := Lib.hid hI
        clear hI hk hS
        unfold two errV
        go_wp2_with fail
        refine (C.T.grab a T4 { t with holder := -1 } 0 _ J4.out).mono ?_
        rintro ev x5 ⟨T5, rfl, hI, hk, hS⟩
        rw [GG.out.2.2.2.2.2.2.2.2.2.2.2.2.2] at hI
        rw [GG.out.2.2.2.2.2.2.2.2.2.2.2.1, GG.out.2.2.2.2.2.2.2.2.2.2.2.2.1]
        have M5 := Lib.hid (mut_step M4.out.2.1 M4.out.1 M4.out.1.size hk hS)
        have J5 := Lib.hid hI
        clear hI hk hS
        unfold two errV
        go_wp2_with fail
        refine (C.T.last a T5 { t with holder := 0 } _ J5.out).mono ?_
        rintro ev x6 ⟨rfl, hs⟩
        rw [show ({ t with holder := 0 } : Tb).all.length = dn from DN.out]
        have B9 := Lib.hid (M5.out.1.trans (hs.mono M5.out.1.size))
        clear hs
        go_wp2_with fail
        refine (awake16 C.T _).mono ?_
        rintro ev wz ⟨rfl, hs⟩
        have BZ := Lib.hid (B9.out.trans (hs.mono B9.out.size))
        clear hs
        go_wp2
        go_ret
        exact ⟨rfl, BZ.out⟩
  · go_enter Try.func3, Try.ntmps3
    go_wp2_with fail
    refine (awake16 C.T _).mono ?_
    rintro ev wz ⟨rfl, hs⟩
    have BZ := Lib.hid (B0.out.trans (hs.mono B0.out.size))
    clear hs
    go_wp2
    go_ret
    exact ⟨rfl, BZ.out⟩
end Go.Proofs.Ytkbfhpgcjljbbaa
