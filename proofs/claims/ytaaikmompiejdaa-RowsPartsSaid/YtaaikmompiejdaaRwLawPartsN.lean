/- The walk of the law RowsParts, out of package rows's contracts: rows that are nil. -/
import Derived.Test.YtaaikmompiejdaaRwMore
import Derived.Test.YtaaikmompiejdaaRwSB
import Derived.Test.YtaaikmompiejdaaB2Code
namespace Go.Proofs.Ytaaikmompiejdaa
open Go.RowKit

theorem stillC {P : Program} {id : FuncId} {args : Array Value} {w : World} {E : Ending → Prop} (h : Calls P id args w fun ev w' => E ev ∧ w = w') :
    Calls P id args w fun ev w' => E ev ∧ Below w.heap.size w w' := h.mono fun _ _ ⟨h1, h2⟩ => ⟨h1, h2 ▸ Below.refl _ _⟩
theorem cmp_ltC {a b : List UInt8} (h : bef a b = true) : cmp a b < 0 := (cmp_neg_iff a b).2 h
theorem cmp_geC {a b : List UInt8} (h : bef a b = false) : 0 ≤ cmp a b := by
  rcases Int.lt_or_le (cmp a b) 0 with h' | h'
  · rw [(cmp_neg_iff _ _).1 h'] at h; cases h
  · exact h'
theorem RowsV.dropF {w : World} {b off n cap : Nat} {rs : List Rw} (h : RowsV w (.slice (some ⟨b, off, none⟩) n cap) rs) (hk : cap ≤ rs.length) (hk2 : rs.length ≤ cap) : RowsV w (.slice (some ⟨b, off, none⟩) 0 0) (rs.drop cap) := by
  have e := h.dropI hk
  have e2 : rs.length - cap = 0 := by omega
  rw [e2] at e
  simpa using e
set_option maxRecDepth 100000 in
set_option maxHeartbeats 4000000 in
theorem lawParts_nil (C : RwC) (u : Value) (ss : List Rw) (key : ByteArray) (w : World) (hu : RowsV w u ss) (hk : key.size ≤ maxLen) :
    Calls Try.prog 5 #[.slice none 0 0, u, .string key] w fun ev w' => ev = .returned (.bool true) ∧ Below w.heap.size w w' := by
  have hnot : ∀ (x : Bool) (w : World), (Op.unary .not (.bool x)).run Try.prog w = .ok (.bool (!x)) w := fun _ _ => rfl
  obtain ⟨ua, uc, rfl, -, -⟩ := hu.lenform
  have L : Aside (RwC ∧ key.size ≤ maxLen) := ⟨C, hk⟩
  have R0 := Lib.hid (RowsV.nil w)
  have U0 := Lib.hid (hu)
  have B0 := Lib.hid (Below.refl w.heap.size w)
  have E := Lib.hid (show fnd [] key = (0, false) from rfl)
  unfold maxLen at hk
  clear C hu
  go_enter Try.func5, Try.ntmps5
  go_wp2_with fail
  refine (rfew_any (.slice none 0 0) [] _ R0.out).mono ?_
  rintro ev w1 ⟨rfl, hs⟩
  have R1 := Lib.hid (R0.out.below hs)
  have U1 := Lib.hid (U0.out.below hs)
  have B1 := Lib.hid (B0.out.trans (hs.mono B0.out.size))
  clear R0 U0 B0
  clear hs
  rw [show fewR [] = true from rfl]
  have K := Lib.hid (show ([] : List Rw).length ≤ 1000 by simp)
  go_wp2_with fail
  refine (rfew_any (.slice ua ss.length uc) ss _ U1.out).mono ?_
  rintro ev w2 ⟨rfl, hs⟩
  have R2 := Lib.hid (R1.out.below hs)
  have U2 := Lib.hid (U1.out.below hs)
  have B2 := Lib.hid (B1.out.trans (hs.mono B1.out.size))
  clear R1 U1 B1
  clear hs
  cases hf2 : fewR ss with
  | false =>
    clear hf2
    go_wp2_with fail
    refine (awakeR L.out.1 _).mono ?_
    rintro ev w3 ⟨rfl, hs⟩
    have R3 := Lib.hid (R2.out.below hs)
    have U3 := Lib.hid (U2.out.below hs)
    have B3 := Lib.hid (B2.out.trans (hs.mono B2.out.size))
    clear R2 U2 B2
    clear hs
    go_wp2
    go_ret
    exact ⟨rfl, B3.out⟩
  | true =>
    have K2 := Lib.hid (show ss.length ≤ 1000 by have := fewR_len hf2; omega)
    clear hf2
    by_cases hk1 : key.size ≤ 100
    · go_wp2_with fail
      refine (L.out.1.cut (.slice none 0 0) [] key _ R2.out K.out L.out.2).mono ?_
      rintro ev w3 ⟨a, e, rfl, h1, h2, hs⟩
      rw [E.out] at h1 h2
      have R3 := Lib.hid (R2.out.below hs)
      have U3 := Lib.hid (U2.out.below hs)
      have B3 := Lib.hid (B2.out.trans (hs.mono B2.out.size))
      clear R2 U2 B2
      have A0 := Lib.hid (h1)
      have D0 := Lib.hid (h2)
      clear hs h1 h2
      go_wp2_with fail
      refine (refFind_any (.slice none 0 0) [] key _ R3.out L.out.2).mono ?_
      rintro ev w4 ⟨rfl, hs⟩
      rw [E.out]
      have R4 := Lib.hid (R3.out.below hs)
      have U4 := Lib.hid (U3.out.below hs)
      have B4 := Lib.hid (B3.out.trans (hs.mono B3.out.size))
      have A1 := Lib.hid (A0.out.below hs)
      have D1 := Lib.hid (D0.out.below hs)
      clear R3 U3 B3 A0 D0
      clear hs
      go_wp2_with fail
      refine (refSame_any a _ [] [] _ A1.out R4.out).mono ?_
      rintro ev w5 ⟨rfl, hs⟩
      rw [sameR_self]
      have R5 := Lib.hid (R4.out.below hs)
      have U5 := Lib.hid (U4.out.below hs)
      have B5 := Lib.hid (B4.out.trans (hs.mono B4.out.size))
      have A2 := Lib.hid (A1.out.below hs)
      have D2 := Lib.hid (D1.out.below hs)
      clear R4 U4 B4 A1 D1
      clear hs
      go_wp2_with fail
      refine (refSame_any e _ [] [] _ D2.out R5.out).mono ?_
      rintro ev w6 ⟨rfl, hs⟩
      rw [sameR_self]
      have R6 := Lib.hid (R5.out.below hs)
      have U6 := Lib.hid (U5.out.below hs)
      have B6 := Lib.hid (B5.out.trans (hs.mono B5.out.size))
      have A3 := Lib.hid (A2.out.below hs)
      have D3 := Lib.hid (D2.out.below hs)
      clear R5 U5 B5 A2 D2
      clear hs
      clear A3
      clear D3
      go_wp2_with fail
      refine (L.out.1.halveNo (.slice none 0 0) [] _ R6.out K.out rfl).mono ?_
      rintro ev w7 ⟨x, y, rfl, h1, h2, hs⟩
      have R7 := Lib.hid (R6.out.below hs)
      have U7 := Lib.hid (U6.out.below hs)
      have B7 := Lib.hid (B6.out.trans (hs.mono B6.out.size))
      clear R6 U6 B6
      have X0 := Lib.hid (h1)
      have Y0 := Lib.hid (h2)
      clear hs h1 h2
      rw [show (if ([] : List Rw).length < 2 then (2 : Int) else 1) = 2 from rfl]
      obtain ⟨xa, xc, hx, -, -⟩ := X0.out.lenform
      obtain ⟨ya, yc, hy, -, -⟩ := Y0.out.lenform
      subst hx hy
      simp only [List.length_nil]
      clear X0 Y0
      go_wp2_with fail
      refine (refHalve_few (.slice none 0 0) [] _ R7.out (by simp)).mono ?_
      rintro ev w8 ⟨rfl, hs⟩
      have R8 := Lib.hid (R7.out.below hs)
      have U8 := Lib.hid (U7.out.below hs)
      have B8 := Lib.hid (B7.out.trans (hs.mono B7.out.size))
      clear R7 U7 B7
      clear hs
      go_wp2_with fail
      refine (Is_code 2 2 _).mono ?_
      rintro ev w9 ⟨rfl, rfl⟩
      have e1 : ((2 : Int) == 2) = true := rfl
      rw [e1]
      clear e1
      go_wp2_with fail
      refine (L.out.1.join (.slice none 0 0) (.slice ua ss.length uc) [] ss _ R8.out U8.out K.out K2.out rfl).mono ?_
      rintro ev w10 ⟨j, rfl, h1, hs⟩
      have R9 := Lib.hid (R8.out.below hs)
      have U9 := Lib.hid (U8.out.below hs)
      have B9 := Lib.hid (B8.out.trans (hs.mono B8.out.size))
      clear R8 U8 B8
      have J0 := Lib.hid (h1)
      clear hs h1
      go_wp2_with fail
      go_quiet (fail)
      have hs := below_drewN (Below.refl w10.heap.size w10) nq
      have R10 := Lib.hid (R9.out.below hs)
      have U10 := Lib.hid (U9.out.below hs)
      have B10 := Lib.hid (B9.out.trans (hs.mono B9.out.size))
      have J1 := Lib.hid (J0.out.below hs)
      clear R9 U9 B9 J0
      clear hs
      go_wp2_with fail
      refine (own_any (.slice none 0 0) [] _ R10.out K.out).mono ?_
      rintro ev w11 ⟨o, rfl, ho, hs1⟩
      have HO := Lib.hid ho
      have H1 := Lib.hid hs1
      have HU := Lib.hid (U10.out.below hs1)
      clear ho hs1
      go_wp2_with (at_builtin; go_must (refine wpList_appG (by rfl) (.tmp 173) (.tmp 174) rfl _ rfl rfl HO.out HU.out (by have := K.out; have := K2.out; omega) H1.out.size ?_))
      intro p w12 hp hg
      have hs := app_below H1.out HO.out (Nat.le_refl _) H1.out.size hg
      have HP := Lib.hid (hp.rows (R10.out.small.append U10.out.small))
      have R11 := Lib.hid (R10.out.below hs)
      have U11 := Lib.hid (U10.out.below hs)
      have B11 := Lib.hid (B10.out.trans (hs.mono B10.out.size))
      have J2 := Lib.hid (J1.out.below hs)
      clear R10 U10 B10 J1
      clear hs hp hg HO H1 HU
      have P0 := Lib.hid (HP.out)
      clear HP
      go_wp2_with fail
      refine (refSame_any j p _ _ _ J2.out P0.out).mono ?_
      rintro ev w13 ⟨rfl, hs⟩
      rw [show sameR ([] ++ ss) ss = true from sameR_self ss]
      have R12 := Lib.hid (R11.out.below hs)
      have U12 := Lib.hid (U11.out.below hs)
      have B12 := Lib.hid (B11.out.trans (hs.mono B11.out.size))
      have J3 := Lib.hid (J2.out.below hs)
      have P1 := Lib.hid (P0.out.below hs)
      clear R11 U11 B11 J2 P0
      clear hs
      go_wp2_with fail
      refine (awakeR L.out.1 _).mono ?_
      rintro ev w14 ⟨rfl, hs⟩
      have R13 := Lib.hid (R12.out.below hs)
      have U13 := Lib.hid (U12.out.below hs)
      have B13 := Lib.hid (B12.out.trans (hs.mono B12.out.size))
      have J4 := Lib.hid (J3.out.below hs)
      have P2 := Lib.hid (P1.out.below hs)
      clear R12 U12 B12 J3 P1
      clear hs
      go_wp2
      go_ret
      exact ⟨rfl, B13.out⟩
    · go_wp2_with fail
      refine (awakeR L.out.1 _).mono ?_
      rintro ev w3 ⟨rfl, hs⟩
      have R3 := Lib.hid (R2.out.below hs)
      have U3 := Lib.hid (U2.out.below hs)
      have B3 := Lib.hid (B2.out.trans (hs.mono B2.out.size))
      clear R2 U2 B2
      clear hs
      go_wp2
      go_ret
      exact ⟨rfl, B3.out⟩
end Go.Proofs.Ytaaikmompiejdaa
