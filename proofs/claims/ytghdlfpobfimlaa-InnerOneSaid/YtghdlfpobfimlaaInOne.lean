/- The walk of the law InnerOne, out of package inner's contracts. -/
import Derived.Test.YtghdlfpobfimlaaInHelp
namespace Go.Proofs.Ytghdlfpobfimlaa
open Go.RowKit

set_option maxRecDepth 100000 in
set_option maxHeartbeats 4000000 in
theorem lawOne (C : InC) (u : Value) (ds : List RcD) (key : ByteArray) (page : Int) (w : World) (hv : ChW w u ds) (hk : key.size ≤ maxLen) :
    Calls Try.prog 3 #[u, .string key, .int .i64 page] w fun ev w' => ev = .returned (.bool true) ∧ Below w.heap.size w w' := by
  have hnot : ∀ (x : Bool) (w : World), (Op.unary .not (.bool x)).run Try.prog w = .ok (.bool (!x)) w := fun _ _ => rfl
  have HK := Lib.hid hk
  have L0 := Lib.hid hv
  have B0 := Lib.hid (Below.refl w.heap.size w)
  unfold maxLen at hk
  clear hv
  go_enter Try.func3, Try.ntmps3
  go_wp2_with fail
  refine (fewI_any u ds _ L0.out).mono ?_
  rintro ev w1 ⟨b, rfl, hok, hs⟩
  have L1 := Lib.hid (L0.out.below hs)
  have B1 := Lib.hid (B0.out.trans (hs.mono B0.out.size))
  clear L0 B0
  clear hs
  cases b with
  | false =>
    clear hok
    go_wp2_with fail
    refine (awakeI C _).mono ?_
    rintro ev w2 ⟨rfl, hs⟩
    have L2 := Lib.hid (L1.out.below hs)
    have B2 := Lib.hid (B1.out.trans (hs.mono B1.out.size))
    clear L1 B1
    clear hs
    go_wp2
    go_ret
    exact ⟨rfl, B2.out⟩
  | true =>
    have FW := Lib.hid (hok rfl)
    clear hok
    by_cases h100 : key.size ≤ 100
    · have SZ := Lib.hid B1.out.size
      go_wp2_with fail
      refine (ownI_any u ds _ L1.out (by have := FW.out.1; omega)).mono ?_
      rintro ev w2 ⟨x, dx, rfl, hx, hR1, hs⟩
      have L2 := Lib.hid (L1.out.below hs)
      have B2 := Lib.hid (B1.out.trans (hs.mono B1.out.size))
      clear L1 B1
      have X0 := Lib.hid (hx.mono SZ.out)
      clear hs hx SZ
      have R1 := Lib.hid hR1
      have R1L := Lib.hid (few_read FW.out hR1)
      clear hR1
      go_wp2_with fail
      refine (C.fold w.heap.size x dx _ X0.out (by have := R1L.out.1; omega) (by have := R1L.out.2; omega)).mono ?_
      rintro ev w3 ⟨en, rfl, hen, hsz, hs⟩
      rw [R1.out] at hen hsz
      rw [R1.out]
      have L3 := Lib.hid (L2.out.below hs)
      have B3 := Lib.hid (B2.out.trans (hs.mono B2.out.size))
      have X1 := Lib.hid (X0.out.below hs)
      clear L2 B2 X0
      have E0 := Lib.hid (hen)
      have Z0 := Lib.hid (hsz)
      clear hs hen hsz
      obtain ⟨v, hv⟩ : ∃ v, viewI (readC ds) = v := ⟨_, rfl⟩
      rw [hv] at E0 Z0
      rw [hv]
      obtain ⟨m, hm⟩ : ∃ m, v.ents.length = m := ⟨_, rfl⟩
      obtain ⟨xa, xc, rfl, -, -⟩ := E0.out.lenN hm
      have HM := Lib.hid hm
      have N1 := Lib.hid hv
      clear hv hm
      unfold ivVal
      by_cases hc : codeI (readC ds) = 0
      · rw [errV_zero hc]
        have HC := Lib.hid hc
        have HF := Lib.hid (viewI_some hc N1.out)
        have HG := Lib.hid (goodI_fold HF.out)
        have HL := Lib.hid (show v.ents.length ≤ 1000 from fold_lenI HF.out (by have := FW.out.2.1; have := FW.out.1; rw [totalI_read]; simp only [readC, List.length_map]; omega))
        clear hc
        have hs := alloc_below0 w3 (ivObj v (.slice xa m xc))
        have L4 := Lib.hid (L3.out.below hs)
        have B4 := Lib.hid (B3.out.trans (hs.mono B3.out.size))
        have X2 := Lib.hid (X1.out.below hs)
        have E1 := Lib.hid (E0.out.below hs)
        clear L3 B3 X1 E0
        have V0 := Lib.hid (VB.new v (.slice xa m xc) w3)
        clear hs
        unfold ivObj at L4 B4 X2 E1 V0
        have v_0 := V0.out.c0
        have v_1 := V0.out.c1
        have v_2 := V0.out.c2
        have v_3 := V0.out.c3
        have v_4 := V0.out.c4
        have v_5 := V0.out.c5
        have v_6 := V0.out.c6
        have v_7 := V0.out.c7
        have v_8 := V0.out.c8
        go_wp2_with fail
        refine (C.child _ v (.slice xa m xc) key _ E1.out HG.out.ris HL.out Z0.out HK.out).mono ?_
        rintro ev w4 ⟨rfl, hs⟩
        clear v_0 v_1 v_2 v_3 v_4 v_5 v_6 v_7 v_8
        have L5 := Lib.hid (L4.out.below hs)
        have B5 := Lib.hid (B4.out.trans (hs.mono B4.out.size))
        have X3 := Lib.hid (X2.out.below hs)
        have E2 := Lib.hid (E1.out.below hs)
        have V1 := Lib.hid (V0.out.below hs)
        clear L4 B4 X2 E1 V0
        clear hs
        cases hcd : childI v key with
        | none =>
          rw [show childC v key = 2 by unfold childC; rw [hcd]; rfl, errV_code (show (2 : Int) ≠ 0 by decide)]
          clear hcd
          unfold entVal
          simp only [Option.getD_none]
          have hs := alloc_below0 w4 (entObj e0)
          have L6 := Lib.hid (L5.out.below hs)
          have B6 := Lib.hid (B5.out.trans (hs.mono B5.out.size))
          have X4 := Lib.hid (X3.out.below hs)
          have E3 := Lib.hid (E2.out.below hs)
          have V2 := Lib.hid (V1.out.below hs)
          clear L5 B5 X3 E2 V1
          have X20 := Lib.hid (EB.new e0 w4)
          clear hs
          unfold entObj at L6 B6 X4 E3 V2 X20
          go_wp2_with fail
          refine (fIs_code 2 2 _).mono ?_
          rintro ev w5 ⟨rfl, hs⟩
          have L7 := Lib.hid (L6.out.below hs)
          have B7 := Lib.hid (B6.out.trans (hs.mono B6.out.size))
          have X5 := Lib.hid (X4.out.below hs)
          have E4 := Lib.hid (E3.out.below hs)
          have V3 := Lib.hid (V2.out.below hs)
          have X21 := Lib.hid (X20.out.below hs)
          clear L6 B6 X4 E3 V2 X20
          clear hs
          rw [show ((2 : Int) == 2) = true from rfl]
          go_wp2_with fail
          refine (awakeI C _).mono ?_
          rintro ev w6 ⟨rfl, hs⟩
          have L8 := Lib.hid (L7.out.below hs)
          have B8 := Lib.hid (B7.out.trans (hs.mono B7.out.size))
          have X6 := Lib.hid (X5.out.below hs)
          have E5 := Lib.hid (E4.out.below hs)
          have V4 := Lib.hid (V3.out.below hs)
          have X22 := Lib.hid (X21.out.below hs)
          clear L7 B7 X5 E4 V3 X21
          clear hs
          go_wp2
          go_ret
          exact ⟨rfl, B8.out⟩
        | some c =>
          rw [show childC v key = 0 by unfold childC; rw [hcd]; rfl, errV_zero rfl]
          have CD := Lib.hid hcd
          have CH := Lib.hid (one_has hcd)
          have CS := Lib.hid (child_size hcd Z0.out)
          clear hcd
          unfold entVal
          simp only [Option.getD_some]
          have hs := alloc_below0 w4 (entObj c)
          have L6 := Lib.hid (L5.out.below hs)
          have B6 := Lib.hid (B5.out.trans (hs.mono B5.out.size))
          have X4 := Lib.hid (X3.out.below hs)
          have E3 := Lib.hid (E2.out.below hs)
          have V2 := Lib.hid (V1.out.below hs)
          clear L5 B5 X3 E2 V1
          have Y0 := Lib.hid (EB.new c w4)
          clear hs
          unfold entObj at L6 B6 X4 E3 V2 Y0
          have v_0 := V2.out.c0
          have v_1 := V2.out.c1
          have v_2 := V2.out.c2
          have v_3 := V2.out.c3
          have v_4 := V2.out.c4
          have v_5 := V2.out.c5
          have v_6 := V2.out.c6
          have v_7 := V2.out.c7
          have v_8 := V2.out.c8
          have y_0 := Y0.out.c0
          have y_1 := Y0.out.c1
          go_wp2_with fail
          refine (C.has _ v (.slice xa m xc) c.1 _ E3.out HG.out.ris HL.out Z0.out CS.out).mono ?_
          rintro ev w5 ⟨rfl, hs⟩
          rw [CH.out.1]
          clear v_0 v_1 v_2 v_3 v_4 v_5 v_6 v_7 v_8 y_0 y_1
          have L7 := Lib.hid (L6.out.below hs)
          have B7 := Lib.hid (B6.out.trans (hs.mono B6.out.size))
          have X5 := Lib.hid (X4.out.below hs)
          have E4 := Lib.hid (E3.out.below hs)
          have V3 := Lib.hid (V2.out.below hs)
          have Y1 := Lib.hid (Y0.out.below hs)
          clear L6 B6 X4 E3 V2 Y0
          clear hs
          obtain ⟨sp, hsp⟩ : ∃ sp : Sc, sp = { Sc.zero with kind := 8, key := key, page := page } := ⟨_, rfl⟩
          have RB0 := Lib.hid (RcO.bare w5.heap.size w5 sp (by rw [hsp]; exact ⟨show 0 ≤ maxLen by decide, show 0 ≤ maxLen by decide, HK.out, show 0 ≤ maxLen by decide, show 0 ≤ maxLen by decide⟩))
          have S_L := L7
          have S_B := B7
          have S_X := X5
          have S_E := E4
          have S_V := V3
          have S_Y := Y1
          have W0 := Lib.hid (Below.refl w5.heap.size w5)
          have hs := alloc_below0 w5 (recObj sp (.slice none 0 0) (.slice none 0 0))
          have L8 := Lib.hid (L7.out.below hs)
          have B8 := Lib.hid (B7.out.trans (hs.mono B7.out.size))
          have X6 := Lib.hid (X5.out.below hs)
          have E5 := Lib.hid (E4.out.below hs)
          have V4 := Lib.hid (V3.out.below hs)
          have Y2 := Lib.hid (Y1.out.below hs)
          have W1 := Lib.hid (W0.out.trans (hs.mono W0.out.size))
          clear L7 B7 X5 E4 V3 Y1 W0
          have P0 := Lib.hid (ChO.one (w := w5) (n := w5.heap.size) rfl (Nat.le_refl _) RB0.out)
          clear hs RB0
          rw [show recObj sp (.slice none 0 0) (.slice none 0 0) = recObj { Sc.zero with kind := 8, key := key, page := page } (.slice none 0 0) (.slice none 0 0) by rw [hsp]] at L8 B8 X6 E5 V4 Y2 W1
          have P1 := Lib.hid (show ChO w5.heap.size (w5.alloc (recObj { Sc.zero with kind := 8, key := key, page := page } (.slice none 0 0) (.slice none 0 0))) (.slice (some ⟨w5.heap.size, 0, none⟩) 1 1) [⟨sp, none, 0, none, 0, [], []⟩] by have h := P0.out; rw [show (RcD.mk sp none 0 none 0 [] []).sc = sp from rfl] at h; rw [← hsp]; exact h)
          clear P0
          unfold recObj Sc.zero at L8 B8 X6 E5 V4 Y2 W1 P1
          have SZ := Lib.hid W1.out.size
          go_wp2_with fail
          refine (ownI_any u ds _ L8.out (by have := FW.out.1; omega)).mono ?_
          rintro ev w6 ⟨y, dy, rfl, hy, hr, hs⟩
          have L9 := Lib.hid (L8.out.below hs)
          have B9 := Lib.hid (B8.out.trans (hs.mono B8.out.size))
          have X7 := Lib.hid (X6.out.below hs)
          have E6 := Lib.hid (E5.out.below hs)
          have V5 := Lib.hid (V4.out.below hs)
          have Y3 := Lib.hid (Y2.out.below hs)
          have W2 := Lib.hid (W1.out.trans (hs.mono W1.out.size))
          have P2 := Lib.hid (P1.out.below hs)
          clear L8 B8 X6 E5 V4 Y2 W1 P1
          have Y20 := Lib.hid (hy.mono SZ.out)
          clear hs hy SZ
          have R2 := Lib.hid hr
          have R2L := Lib.hid (few_read FW.out hr)
          clear hr
          go_wp2_with (at_builtin; go_must (refine wpList_appS lRec 22 Try.underlying22 lRec_known (by decide) (by decide) rfl (.tmp 55) (.tmp 57) rfl _ rfl rfl P2.out.own Y20.out.own.sv (by have := R2L.out.1; simp; omega) W2.out.size ?_; intro va7 w7 ho hg))
          have hs := W2.out.grown hg W2.out.size (fun k hk => (World.ownsRow.lt P2.out.own k hk).1)
          have Q0 := Lib.hid (P2.out.append Y20.out (Nat.le_refl _) ho hg)
          have L10 := Lib.hid (S_L.out.below hs)
          have B10 := Lib.hid (S_B.out.trans (hs.mono S_B.out.size))
          have X8 := Lib.hid (S_X.out.below hs)
          have E7 := Lib.hid (S_E.out.below hs)
          have V6 := Lib.hid (S_V.out.below hs)
          have Y4 := Lib.hid (S_Y.out.below hs)
          clear hs ho hg L9 B9 X7 E6 V5 Y3 W2 P2 Y20 S_L S_B S_X S_E S_V S_Y
          have RQ := Lib.hid (show readC ([⟨sp, none, 0, none, 0, [], []⟩] ++ dy) = putI8 key page :: readC ds by rw [readC_app, R2.out, hsp]; rfl)
          clear hsp
          go_wp2_with fail
          refine (C.fold _ _ _ _ Q0.out (by have := R2L.out.1; simp; omega) (by have := R2L.out.2; simp; omega)).mono ?_
          rintro ev w8 ⟨en2, rfl, hen, hsz, hs⟩
          rw [RQ.out] at hen hsz
          rw [RQ.out]
          have L11 := Lib.hid (L10.out.below hs)
          have B11 := Lib.hid (B10.out.trans (hs.mono B10.out.size))
          have X9 := Lib.hid (X8.out.below hs)
          have E8 := Lib.hid (E7.out.below hs)
          have V7 := Lib.hid (V6.out.below hs)
          have Y5 := Lib.hid (Y4.out.below hs)
          have Q1 := Lib.hid (Q0.out.below hs)
          clear L10 B10 X8 E7 V6 Y4 Q0
          have E20 := Lib.hid (hen)
          have Z20 := Lib.hid (hsz)
          clear hs hen hsz RQ
          by_cases hn : v.held = true ∨ (atE v.ents key).isSome = true
          · have CN := code_no (all_cons (r := putI8 key page) rfl HC.out) (put_no (p := page) HF.out hn)
            rw [CN.2] at E20
            rw [CN.1, CN.2, errV_code (show (10 : Int) ≠ 0 by decide)]
            clear CN
            obtain ⟨za, zc, rfl, -, -⟩ := E20.out.lenN (show IvD.zero.ents.length = 0 from rfl)
            obtain ⟨v0, hv0⟩ : ∃ v0, IvD.zero = v0 := ⟨_, rfl⟩
            rw [hv0] at E20 ⊢
            clear hv0 Z20
            unfold ivVal
            have hs := alloc_below0 w8 (ivObj v0 (.slice za 0 zc))
            have L12 := Lib.hid (L11.out.below hs)
            have B12 := Lib.hid (B11.out.trans (hs.mono B11.out.size))
            have X10 := Lib.hid (X9.out.below hs)
            have E9 := Lib.hid (E8.out.below hs)
            have V8 := Lib.hid (V7.out.below hs)
            have Y6 := Lib.hid (Y5.out.below hs)
            have Q2 := Lib.hid (Q1.out.below hs)
            have E21 := Lib.hid (E20.out.below hs)
            clear L11 B11 X9 E8 V7 Y5 Q1 E20
            clear hs
            unfold ivObj at L12 B12 X10 E9 V8 Y6 Q2 E21
            have v_0 := V8.out.c0
            have v_1 := V8.out.c1
            have v_2 := V8.out.c2
            have v_3 := V8.out.c3
            have v_4 := V8.out.c4
            have v_5 := V8.out.c5
            have v_6 := V8.out.c6
            have v_7 := V8.out.c7
            have v_8 := V8.out.c8
            obtain ⟨t, ht⟩ : ∃ t, (atE v.ents key).isSome = t := ⟨_, rfl⟩
            go_wp2_with fail
            refine (C.has _ v (.slice xa m xc) key _ E9.out HG.out.ris HL.out Z0.out HK.out).mono ?_
            rintro ev w9 ⟨rfl, hs⟩
            rw [ht]
            clear v_0 v_1 v_2 v_3 v_4 v_5 v_6 v_7 v_8
            have L13 := Lib.hid (L12.out.below hs)
            have B13 := Lib.hid (B12.out.trans (hs.mono B12.out.size))
            have X11 := Lib.hid (X10.out.below hs)
            have E10 := Lib.hid (E9.out.below hs)
            have V9 := Lib.hid (V8.out.below hs)
            have Y7 := Lib.hid (Y6.out.below hs)
            have Q3 := Lib.hid (Q2.out.below hs)
            have E22 := Lib.hid (E21.out.below hs)
            clear L12 B12 X10 E9 V8 Y6 Q2 E21
            clear hs
            rw [ht] at hn
            have KY := Lib.hid (show t = true → c.1 = key from fun e => by obtain ⟨n, hn⟩ := Option.isSome_iff_exists.1 (ht.trans e); exact one_key HG.out CD.out hn)
            clear ht
            cases hh : v.held with
            | true =>
              clear hn
              have v_5 : w9.cell? ⟨w3.heap.size, 5, none⟩ = some (.bool true) := by rw [← hh]; exact V9.out.c5
              clear hh
              cases t with
              | true =>
                go_wp2_with fail
                refine (awakeI C _).mono ?_
                rintro ev w10 ⟨rfl, hs⟩
                clear v_5
                have L14 := Lib.hid (L13.out.below hs)
                have B14 := Lib.hid (B13.out.trans (hs.mono B13.out.size))
                have X12 := Lib.hid (X11.out.below hs)
                have E11 := Lib.hid (E10.out.below hs)
                have V10 := Lib.hid (V9.out.below hs)
                have Y8 := Lib.hid (Y7.out.below hs)
                have Q4 := Lib.hid (Q3.out.below hs)
                have E23 := Lib.hid (E22.out.below hs)
                clear L13 B13 X11 E10 V9 Y7 Q3 E22
                clear hs
                go_wp2
                go_ret
                exact ⟨rfl, B14.out⟩
              | false =>
                go_wp2_with fail
                refine (awakeI C _).mono ?_
                rintro ev w10 ⟨rfl, hs⟩
                clear v_5
                have L14 := Lib.hid (L13.out.below hs)
                have B14 := Lib.hid (B13.out.trans (hs.mono B13.out.size))
                have X12 := Lib.hid (X11.out.below hs)
                have E11 := Lib.hid (E10.out.below hs)
                have V10 := Lib.hid (V9.out.below hs)
                have Y8 := Lib.hid (Y7.out.below hs)
                have Q4 := Lib.hid (Q3.out.below hs)
                have E23 := Lib.hid (E22.out.below hs)
                clear L13 B13 X11 E10 V9 Y7 Q3 E22
                clear hs
                go_wp2
                go_ret
                exact ⟨rfl, B14.out⟩
            | false =>
              have ht : t = true := by
                rcases hn with hn | hn
                · rw [hh] at hn; cases hn
                · exact hn
              have v_5 : w9.cell? ⟨w3.heap.size, 5, none⟩ = some (.bool false) := by rw [← hh]; exact V9.out.c5
              have y_0 : w9.cell? ⟨w4.heap.size, 0, none⟩ = some (.string key) := by rw [← KY.out ht]; exact Y7.out.c0
              have ks : (key.toList == key.toList) = true := by simp
              clear hn hh
              subst ht
              go_wp2_with fail
              refine (awakeI C _).mono ?_
              rintro ev w10 ⟨rfl, hs⟩
              clear v_5 y_0
              have L14 := Lib.hid (L13.out.below hs)
              have B14 := Lib.hid (B13.out.trans (hs.mono B13.out.size))
              have X12 := Lib.hid (X11.out.below hs)
              have E11 := Lib.hid (E10.out.below hs)
              have V10 := Lib.hid (V9.out.below hs)
              have Y8 := Lib.hid (Y7.out.below hs)
              have Q4 := Lib.hid (Q3.out.below hs)
              have E23 := Lib.hid (E22.out.below hs)
              clear L13 B13 X11 E10 V9 Y7 Q3 E22
              clear hs
              go_wp2
              go_ret
              exact ⟨rfl, B14.out⟩
          · have hh : v.held = false := by cases h : v.held with | true => exact absurd (.inl h) hn | false => rfl
            have ha : atE v.ents key = none := by cases h : atE v.ents key with | some n => exact absurd (.inr (by rw [h]; rfl)) hn | none => rfl
            obtain ⟨x, hx1, hx2, hx3⟩ := put_yes (p := page) HF.out hh ha CH.out.2
            have GX := Lib.hid (goodI_fold hx1)
            have LX := Lib.hid (show x.ents.length ≤ 1000 ∧ x.ents.length = m + 1 from ⟨fold_lenI hx1 (by have := FW.out.2.1; have := FW.out.1; rw [show totalI (putI8 key page :: readC ds) = totalI (readC ds) by simp [totalI, putI8], totalI_read]; simp only [readC, List.length_cons, List.length_map]; omega), by rw [hx3, HM.out]⟩)
            have CY := code_yes (all_cons (r := putI8 key page) rfl HC.out) hx1
            rw [CY.2] at E20 Z20
            rw [CY.1, CY.2, errV_zero rfl]
            clear CY hn hx1 hx3
            have HX := Lib.hid (show childI x key = some (key, page) ∧ childC x key = 0 from ⟨hx2, by unfold childC; rw [hx2]; rfl⟩)
            have HA := Lib.hid (show (atE v.ents key).isSome = false by rw [ha]; rfl)
            have HH := Lib.hid hh
            clear hx2 ha hh
            obtain ⟨za, zc, rfl, -, -⟩ := E20.out.lenN LX.out.2
            unfold ivVal
            have hs := alloc_below0 w8 (ivObj x (.slice za (m + 1) zc))
            have L12 := Lib.hid (L11.out.below hs)
            have B12 := Lib.hid (B11.out.trans (hs.mono B11.out.size))
            have X10 := Lib.hid (X9.out.below hs)
            have E9 := Lib.hid (E8.out.below hs)
            have V8 := Lib.hid (V7.out.below hs)
            have Y6 := Lib.hid (Y5.out.below hs)
            have Q2 := Lib.hid (Q1.out.below hs)
            have E21 := Lib.hid (E20.out.below hs)
            clear L11 B11 X9 E8 V7 Y5 Q1 E20
            have U0 := Lib.hid (VB.new x (.slice za (m + 1) zc) w8)
            clear hs
            unfold ivObj at L12 B12 X10 E9 V8 Y6 Q2 E21 U0
            have v_0 := V8.out.c0
            have v_1 := V8.out.c1
            have v_2 := V8.out.c2
            have v_3 := V8.out.c3
            have v_4 := V8.out.c4
            have v_5 := V8.out.c5
            have v_6 := V8.out.c6
            have v_7 := V8.out.c7
            have v_8 := V8.out.c8
            go_wp2_with fail
            refine (C.has _ v (.slice xa m xc) key _ E9.out HG.out.ris HL.out Z0.out HK.out).mono ?_
            rintro ev w9 ⟨rfl, hs⟩
            rw [HA.out]
            clear v_0 v_1 v_2 v_3 v_4 v_5 v_6 v_7 v_8
            have L13 := Lib.hid (L12.out.below hs)
            have B13 := Lib.hid (B12.out.trans (hs.mono B12.out.size))
            have X11 := Lib.hid (X10.out.below hs)
            have E10 := Lib.hid (E9.out.below hs)
            have V9 := Lib.hid (V8.out.below hs)
            have Y7 := Lib.hid (Y6.out.below hs)
            have Q3 := Lib.hid (Q2.out.below hs)
            have E22 := Lib.hid (E21.out.below hs)
            have U1 := Lib.hid (U0.out.below hs)
            clear L12 B12 X10 E9 V8 Y6 Q2 E21 U0
            clear hs
            have v_5 : w9.cell? ⟨w3.heap.size, 5, none⟩ = some (.bool false) := by rw [← HH.out]; exact V9.out.c5
            have u_0 := U1.out.c0
            have u_1 := U1.out.c1
            have u_2 := U1.out.c2
            have u_3 := U1.out.c3
            have u_4 := U1.out.c4
            have u_5 := U1.out.c5
            have u_6 := U1.out.c6
            have u_7 := U1.out.c7
            have u_8 := U1.out.c8
            go_wp2_with fail
            refine (C.child _ x (.slice za (m + 1) zc) key _ E22.out GX.out.ris LX.out.1 Z20.out HK.out).mono ?_
            rintro ev w10 ⟨rfl, hs⟩
            rw [HX.out.1, HX.out.2, errV_zero rfl]
            clear v_5 u_0 u_1 u_2 u_3 u_4 u_5 u_6 u_7 u_8
            have L14 := Lib.hid (L13.out.below hs)
            have B14 := Lib.hid (B13.out.trans (hs.mono B13.out.size))
            have X12 := Lib.hid (X11.out.below hs)
            have E11 := Lib.hid (E10.out.below hs)
            have V10 := Lib.hid (V9.out.below hs)
            have Y8 := Lib.hid (Y7.out.below hs)
            have Q4 := Lib.hid (Q3.out.below hs)
            have E23 := Lib.hid (E22.out.below hs)
            have U2 := Lib.hid (U1.out.below hs)
            clear L13 B13 X11 E10 V9 Y7 Q3 E22 U1
            clear hs
            unfold entVal
            simp only [Option.getD_some]
            have hs := alloc_below0 w10 (entObj (key, page))
            have L15 := Lib.hid (L14.out.below hs)
            have B15 := Lib.hid (B14.out.trans (hs.mono B14.out.size))
            have X13 := Lib.hid (X12.out.below hs)
            have E12 := Lib.hid (E11.out.below hs)
            have V11 := Lib.hid (V10.out.below hs)
            have Y9 := Lib.hid (Y8.out.below hs)
            have Q5 := Lib.hid (Q4.out.below hs)
            have E24 := Lib.hid (E23.out.below hs)
            have U3 := Lib.hid (U2.out.below hs)
            clear L14 B14 X12 E11 V10 Y8 Q4 E23 U2
            have X30 := Lib.hid (EB.new (key, page) w10)
            clear hs
            unfold entObj at L15 B15 X13 E12 V11 Y9 Q5 E24 U3 X30
            have e_0 := X30.out.c0
            have e_1 := X30.out.c1
            have u_4 := U3.out.c4
            have v_4 := V11.out.c4
            have ks : (key.toList == key.toList) = true := by simp
            have ps : (page == page) = true := by simp
            have ms : IntKind.i64.wrap ((m : Int) + 1) = (m : Int) + 1 := Go.IntWalk.i64_in _ (by have := HL.out; have := HM.out; omega)
            have mm : (((m + 1 : Nat) : Int) == (m : Int) + 1) = true := by simp
            go_wp2_with fail
            refine (awakeI C _).mono ?_
            rintro ev w11 ⟨rfl, hs⟩
            clear e_0 e_1 u_4 v_4
            have L16 := Lib.hid (L15.out.below hs)
            have B16 := Lib.hid (B15.out.trans (hs.mono B15.out.size))
            have X14 := Lib.hid (X13.out.below hs)
            have E13 := Lib.hid (E12.out.below hs)
            have V12 := Lib.hid (V11.out.below hs)
            have Y10 := Lib.hid (Y9.out.below hs)
            have Q6 := Lib.hid (Q5.out.below hs)
            have E25 := Lib.hid (E24.out.below hs)
            have U4 := Lib.hid (U3.out.below hs)
            have X31 := Lib.hid (X30.out.below hs)
            clear L15 B15 X13 E12 V11 Y9 Q5 E24 U3 X30
            clear hs
            go_wp2
            go_ret
            exact ⟨rfl, B16.out⟩
      · rw [errV_code hc]
        clear hc
        have hs := alloc_below0 w3 (ivObj v (.slice xa m xc))
        have L4 := Lib.hid (L3.out.below hs)
        have B4 := Lib.hid (B3.out.trans (hs.mono B3.out.size))
        have X2 := Lib.hid (X1.out.below hs)
        have E1 := Lib.hid (E0.out.below hs)
        clear L3 B3 X1 E0
        have V0 := Lib.hid (VB.new v (.slice xa m xc) w3)
        clear hs
        unfold ivObj at L4 B4 X2 E1 V0
        go_wp2_with fail
        refine (awakeI C _).mono ?_
        rintro ev w4 ⟨rfl, hs⟩
        have L5 := Lib.hid (L4.out.below hs)
        have B5 := Lib.hid (B4.out.trans (hs.mono B4.out.size))
        have X3 := Lib.hid (X2.out.below hs)
        have E2 := Lib.hid (E1.out.below hs)
        have V1 := Lib.hid (V0.out.below hs)
        clear L4 B4 X2 E1 V0
        clear hs
        go_wp2
        go_ret
        exact ⟨rfl, B5.out⟩
    · go_wp2_with fail
      refine (awakeI C _).mono ?_
      rintro ev w2 ⟨rfl, hs⟩
      have L2 := Lib.hid (L1.out.below hs)
      have B2 := Lib.hid (B1.out.trans (hs.mono B1.out.size))
      clear L1 B1
      clear hs
      go_wp2
      go_ret
      exact ⟨rfl, B2.out⟩
end Go.Proofs.Ytghdlfpobfimlaa
