/- The walk of the law RowsKeeps, out of package rows's contracts. -/
import Derived.Test.YtaaikmompiejdaaRwKeep
import Derived.Test.YtaaikmompiejdaaRwSB
namespace Go.Proofs.Ytaaikmompiejdaa
open Go.RowKit

set_option maxRecDepth 100000 in
set_option maxHeartbeats 4000000 in
theorem lawKeeps (C : RwC) (v : Value) (rs : List Rw) (k x o : ByteArray) (w : World) (hv : RowsV w v rs) (hk : k.size ≤ maxLen) (hx : x.size ≤ maxLen) (ho : o.size ≤ maxLen) :
    Calls Try.prog 7 #[v, .agg #[.string k, .string x], .string o] w fun ev w' => ev = .returned (.bool true) ∧ Below w.heap.size w w' := by
  have hnot : ∀ (x : Bool) (w : World), (Op.unary .not (.bool x)).run Try.prog w = .ok (.bool (!x)) w := fun _ _ => rfl
  have L : Aside (RwC ∧ k.size ≤ maxLen ∧ x.size ≤ maxLen ∧ o.size ≤ maxLen) := ⟨C, hk, hx, ho⟩
  have R0 := Lib.hid (hv.alloc (.cells #[.string k, .string x] 30))
  have B0 := Lib.hid (alloc_below0 w (.cells #[.string k, .string x] 30))
  have P0 := Lib.hid ((PB.new k x w 30).c0)
  have Q0 := Lib.hid ((PB.new k x w 30).c1)
  unfold maxLen at hk hx ho
  clear C hv
  go_enter Try.func7, Try.ntmps7
  go_wp2_with fail
  refine (rfew_any v rs _ R0.out).mono ?_
  rintro ev w1 ⟨rfl, hs⟩
  have R1 := Lib.hid (R0.out.below hs)
  have B1 := Lib.hid (B0.out.trans (hs.mono B0.out.size))
  have P1 := Lib.hid (cell_step P0.out hs)
  have Q1 := Lib.hid (cell_step Q0.out hs)
  clear R0 B0 P0 Q0
  clear hs
  cases hf : fewR rs with
  | false =>
    clear hf
    go_wp2_with fail
    refine (awakeR L.out.1 _).mono ?_
    rintro ev w2 ⟨rfl, hs⟩
    have R2 := Lib.hid (R1.out.below hs)
    have B2 := Lib.hid (B1.out.trans (hs.mono B1.out.size))
    have P2 := Lib.hid (cell_step P1.out hs)
    have Q2 := Lib.hid (cell_step Q1.out hs)
    clear R1 B1 P1 Q1
    clear hs
    go_wp2
    go_ret
    exact ⟨rfl, B2.out⟩
  | true =>
    have K2000 := Lib.hid (fewR_len hf)
    have K := Lib.hid (show rs.length ≤ 1000 by have := fewR_len hf; omega)
    clear hf
    go_wp2_with fail
    refine (refRowsRight_any v rs _ R1.out).mono ?_
    rintro ev w2 ⟨rfl, hs⟩
    have R2 := Lib.hid (R1.out.below hs)
    have B2 := Lib.hid (B1.out.trans (hs.mono B1.out.size))
    have P2 := Lib.hid (cell_step P1.out hs)
    have Q2 := Lib.hid (cell_step Q1.out hs)
    clear R1 B1 P1 Q1
    clear hs
    cases hr : rightB rs with
    | false =>
      clear hr
      go_wp2_with fail
      refine (awakeR L.out.1 _).mono ?_
      rintro ev w3 ⟨rfl, hs⟩
      have R3 := Lib.hid (R2.out.below hs)
      have B3 := Lib.hid (B2.out.trans (hs.mono B2.out.size))
      have P3 := Lib.hid (cell_step P2.out hs)
      have Q3 := Lib.hid (cell_step Q2.out hs)
      clear R2 B2 P2 Q2
      clear hs
      go_wp2
      go_ret
      exact ⟨rfl, B3.out⟩
    | true =>
      have V := Lib.hid hr
      clear hr
      have c0 := P2.out
      have c1 := Q2.out
      go_wp2_with fail
      refine (refFits_any (k, x) _ L.out.2.1 L.out.2.2.1).mono ?_
      rintro ev w3 ⟨rfl, hs⟩
      have R3 := Lib.hid (R2.out.below hs)
      have B3 := Lib.hid (B2.out.trans (hs.mono B2.out.size))
      have P3 := Lib.hid (cell_step P2.out hs)
      have Q3 := Lib.hid (cell_step Q2.out hs)
      clear R2 B2 P2 Q2
      clear hs
      cases hfit : fitB (k, x) with
      | false =>
        clear hfit
        go_wp2_with fail
        refine (awakeR L.out.1 _).mono ?_
        rintro ev w4 ⟨rfl, hs⟩
        have R4 := Lib.hid (R3.out.below hs)
        have B4 := Lib.hid (B3.out.trans (hs.mono B3.out.size))
        have P4 := Lib.hid (cell_step P3.out hs)
        have Q4 := Lib.hid (cell_step Q3.out hs)
        clear R3 B3 P3 Q3
        clear hs
        go_wp2
        go_ret
        exact ⟨rfl, B4.out⟩
      | true =>
        have F := Lib.hid hfit
        clear hfit c0 c1
        by_cases hk1 : o.size ≤ 100
        · have V1 := Lib.hid (put_right (k, x) F.out rs V.out (fun q hq => by cases hq))
          have V2 := Lib.hid (drop_right k rs V.out)
          have V3 := Lib.hid (show (fnd (putR rs (k, x)) k).2 = true ∧ (putR rs (k, x)).getD (fnd (putR rs (k, x)) k).1 r0 = (k, x) from put_found (k, x) rs)
          have V4 := Lib.hid (drop_gone k rs V.out)
          have V5 := Lib.hid (show (putR rs (k, x)).length = (dropR rs k).length + 1 from put_len (k, x) rs)
          have K1 := Lib.hid (show (putR rs (k, x)).length ≤ 1000 by have := put_len (k, x) rs; have := dropR_len rs k; have := K2000.out; simp only at *; omega)
          have K2 := Lib.hid (show (dropR rs k).length ≤ 1000 by have := dropR_len rs k; have := K.out; omega)
          go_wp2_with fail
          have R4 := Lib.hid (R3.out.below (Below.refl _ _).drew)
          have B4 := Lib.hid (B3.out.trans ((Below.refl _ _).drew.mono B3.out.size))
          have P4 := Lib.hid (cell_step P3.out (Below.refl _ _).drew)
          have Q4 := Lib.hid (cell_step Q3.out (Below.refl _ _).drew)
          clear R3 B3 P3 Q3
          have zz0 := P4.out
          have zz1 := Q4.out
          go_region_held3 (fun w' => w'.cell? ⟨w.heap.size, 0, none⟩ = some (.string k) ∧ w'.cell? ⟨w.heap.size, 1, none⟩ = some (.string x))
            (first | exact ⟨by assumption, by assumption⟩ | go_keep)
            (first
              | (go_at_call 20; (with_reducible refine (own_any v rs _ R4.out K.out).mono ?_); rintro e w4 ⟨u, rfl, ho, hs⟩; have R5 := Lib.hid (R4.out.below hs); have B5 := Lib.hid (B4.out.trans (hs.mono B4.out.size)); have P5 := Lib.hid (cell_step P4.out hs); have Q5 := Lib.hid (cell_step Q4.out hs); clear R4 B4 P4 Q4; have U0 := Lib.hid (ho.rows R5.out.small); have zz0_0 := P5.out; have zz1_0 := Q5.out; clear hs ho)
              | (go_at_call 23; (with_reducible refine (L.out.1.put u rs k x _ U0.out K.out L.out.2.1 L.out.2.2.1 F.out).mono ?_); rintro e w5 ⟨p, rfl, h1, hs⟩; have R6 := Lib.hid (R5.out.below hs); have B6 := Lib.hid (B5.out.trans (hs.mono B5.out.size)); have P6 := Lib.hid (cell_step P5.out hs); have Q6 := Lib.hid (cell_step Q5.out hs); have U1 := Lib.hid (U0.out.below hs); clear R5 B5 P5 Q5 U0; have X0 := Lib.hid (h1); have zz0_1 := P6.out; have zz1_1 := Q6.out; clear hs h1))
          go_wp2_with fail
          have R7 := Lib.hid (R6.out.below (Below.refl _ _).drew)
          have B7 := Lib.hid (B6.out.trans ((Below.refl _ _).drew.mono B6.out.size))
          have P7 := Lib.hid (cell_step P6.out (Below.refl _ _).drew)
          have Q7 := Lib.hid (cell_step Q6.out (Below.refl _ _).drew)
          have U2 := Lib.hid (U1.out.below (Below.refl _ _).drew)
          have X1 := Lib.hid (X0.out.below (Below.refl _ _).drew)
          clear R6 B6 P6 Q6 U1 X0
          have zz0 := P7.out
          have zz1 := Q7.out
          go_region_held3 (fun w' => w'.cell? ⟨w.heap.size, 0, none⟩ = some (.string k) ∧ w'.cell? ⟨w.heap.size, 1, none⟩ = some (.string x))
            (first | exact ⟨by assumption, by assumption⟩ | go_keep)
            (first
              | (go_at_call 20; (with_reducible refine (own_any v rs _ R7.out K.out).mono ?_); rintro e w6 ⟨u2, rfl, ho, hs⟩; have R8 := Lib.hid (R7.out.below hs); have B8 := Lib.hid (B7.out.trans (hs.mono B7.out.size)); have P8 := Lib.hid (cell_step P7.out hs); have Q8 := Lib.hid (cell_step Q7.out hs); have U3 := Lib.hid (U2.out.below hs); have X2 := Lib.hid (X1.out.below hs); clear R7 B7 P7 Q7 U2 X1; have U20 := Lib.hid (ho.rows R8.out.small); have zz0_0 := P8.out; have zz1_0 := Q8.out; clear hs ho)
              | (go_at_call 21; (with_reducible refine (L.out.1.drop u2 rs k _ U20.out K.out L.out.2.1).mono ?_); rintro e w7 ⟨d, rfl, h1, hs⟩; have R9 := Lib.hid (R8.out.below hs); have B9 := Lib.hid (B8.out.trans (hs.mono B8.out.size)); have P9 := Lib.hid (cell_step P8.out hs); have Q9 := Lib.hid (cell_step Q8.out hs); have U4 := Lib.hid (U3.out.below hs); have X3 := Lib.hid (X2.out.below hs); have U21 := Lib.hid (U20.out.below hs); clear R8 B8 P8 Q8 U3 X2 U20; have Y0 := Lib.hid (h1); have zz0_1 := P9.out; have zz1_1 := Q9.out; clear hs h1))
          have c0 := P9.out
          have c1 := Q9.out
          go_wp2_with fail
          refine (L.out.1.find p _ k _ X3.out K1.out L.out.2.1).mono ?_
          rintro ev w8 ⟨rfl, hs⟩
          rw [V3.out.1]
          have R10 := Lib.hid (R9.out.below hs)
          have B10 := Lib.hid (B9.out.trans (hs.mono B9.out.size))
          have P10 := Lib.hid (cell_step P9.out hs)
          have Q10 := Lib.hid (cell_step Q9.out hs)
          have U5 := Lib.hid (U4.out.below hs)
          have X4 := Lib.hid (X3.out.below hs)
          have U22 := Lib.hid (U21.out.below hs)
          have Y1 := Lib.hid (Y0.out.below hs)
          clear R9 B9 P9 Q9 U4 X3 U21 Y0
          clear hs
          clear c0 c1
          have c0 := P10.out
          have c1 := Q10.out
          go_wp2_with fail
          refine (L.out.1.find d _ k _ Y1.out K2.out L.out.2.1).mono ?_
          rintro ev w9 ⟨rfl, hs⟩
          rw [V4.out]
          have R11 := Lib.hid (R10.out.below hs)
          have B11 := Lib.hid (B10.out.trans (hs.mono B10.out.size))
          have P11 := Lib.hid (cell_step P10.out hs)
          have Q11 := Lib.hid (cell_step Q10.out hs)
          have U6 := Lib.hid (U5.out.below hs)
          have X5 := Lib.hid (X4.out.below hs)
          have U23 := Lib.hid (U22.out.below hs)
          have Y2 := Lib.hid (Y1.out.below hs)
          clear R10 B10 P10 Q10 U5 X4 U22 Y1
          clear hs
          clear c0 c1
          have hnl := (fnd_there _ _ V3.out.1).1
          obtain ⟨np, hnp⟩ : ∃ np, (fnd (putR rs (k, x)) k).1 = np := ⟨_, rfl⟩
          have V6 := Lib.hid V3.out.2
          rw [hnp] at hnl V6 ⊢
          clear hnp
          rcases X5.out.form with ⟨-, he⟩ | ⟨pb, po, pc, hp, -, -, hpc⟩
          · rw [he] at hnl; exact absurd hnl (by simp)
          have x0 := (hpc np hnl).1
          have x1 := (hpc np hnl).2
          rw [V6.out] at x0 x1
          simp only at x0 x1
          subst hp
          obtain ⟨da, dc, hd, -, -⟩ := Y2.out.lenform
          subst hd
          obtain ⟨ld, hld⟩ : ∃ ld, (dropR rs k).length = ld := ⟨_, rfl⟩
          have hlp : (putR rs (k, x)).length = ld + 1 := by rw [V5.out, hld]
          rw [hlp] at hnl
          rw [hlp, hld]
          have hldb : ld ≤ 1000 := by have := K2.out; omega
          obtain ⟨t, ht⟩ : ∃ t, (fnd rs k).2 = t := ⟨_, rfl⟩
          rw [ht]
          have G0 := Lib.hid (x0)
          have H0 := Lib.hid (x1)
          have hlp' := Lib.hid hlp
          have hld' := Lib.hid hld
          clear hpc x0 x1 ht hlp hld
          have htt : (t != t) = false := by simp
          have i1 : (0 : Int) ≤ (np : Int) := by omega
          have i2 : (np : Int) < (ld : Int) + 1 := by omega
          have i3 : IntKind.i64.wrap ((ld : Int) + 1) = (ld : Int) + 1 := Go.IntWalk.i64_in _ (by omega)
          have i4 : ((ld : Int) + 1 != (ld : Int) + 1) = false := by simp
          have i5 : (((ld + 1 : Nat) : Int) != (ld : Int) + 1) = false := by simp
          have j1 : (k.toList == k.toList) = true := by simp
          have j2 : (x.toList == x.toList) = true := by simp
          go_wp2_with fail
          have R12 := Lib.hid (R11.out.below (Below.refl _ _).drew)
          have B12 := Lib.hid (B11.out.trans ((Below.refl _ _).drew.mono B11.out.size))
          have P12 := Lib.hid (cell_step P11.out (Below.refl _ _).drew)
          have Q12 := Lib.hid (cell_step Q11.out (Below.refl _ _).drew)
          have U7 := Lib.hid (U6.out.below (Below.refl _ _).drew)
          have X6 := Lib.hid (X5.out.below (Below.refl _ _).drew)
          have U24 := Lib.hid (U23.out.below (Below.refl _ _).drew)
          have Y3 := Lib.hid (Y2.out.below (Below.refl _ _).drew)
          have G1 := Lib.hid (cell_step G0.out (Below.refl _ _).drew)
          have H1 := Lib.hid (cell_step H0.out (Below.refl _ _).drew)
          clear R11 B11 P11 Q11 U6 X5 U23 Y2 G0 H0
          have zz0 := P12.out
          have zz1 := Q12.out
          have zz2 := G1.out
          have zz3 := H1.out
          go_region_held3 (fun w' => w'.cell? ⟨w.heap.size, 0, none⟩ = some (.string k) ∧ w'.cell? ⟨w.heap.size, 1, none⟩ = some (.string x) ∧ w'.cell? ⟨pb, po + np * 2, none⟩ = some (.string k) ∧ w'.cell? ⟨pb, po + np * 2 + 1, none⟩ = some (.string x))
            (first | exact ⟨by assumption, by assumption, by assumption, by assumption⟩ | go_keep)
            (first
              | (go_at_call 17; (with_reducible refine (L.out.1.right (.slice (some ⟨pb, po, none⟩) (ld + 1) pc) (putR rs (k, x)) _ (hlp'.out ▸ X6.out) K1.out).mono ?_); rintro e w10 ⟨rfl, hs⟩; rw [show rightB (putR rs (k, x)) = true from V1.out]; have R13 := Lib.hid (R12.out.below hs); have B13 := Lib.hid (B12.out.trans (hs.mono B12.out.size)); have P13 := Lib.hid (cell_step P12.out hs); have Q13 := Lib.hid (cell_step Q12.out hs); have U8 := Lib.hid (U7.out.below hs); have X7 := Lib.hid (X6.out.below hs); have U25 := Lib.hid (U24.out.below hs); have Y4 := Lib.hid (Y3.out.below hs); have G2 := Lib.hid (cell_step G1.out hs); have H2 := Lib.hid (cell_step H1.out hs); clear R12 B12 P12 Q12 U7 X6 U24 Y3 G1 H1; have zz0_0 := P13.out; have zz1_0 := Q13.out; have zz2_0 := G2.out; have zz3_0 := H2.out; clear hs)
              | (go_at_call 17; (with_reducible refine (L.out.1.right (.slice da ld dc) (dropR rs k) _ (hld'.out ▸ Y4.out) K2.out).mono ?_); rintro e w11 ⟨rfl, hs⟩; rw [show rightB (dropR rs k) = true from V2.out]; have R14 := Lib.hid (R13.out.below hs); have B14 := Lib.hid (B13.out.trans (hs.mono B13.out.size)); have P14 := Lib.hid (cell_step P13.out hs); have Q14 := Lib.hid (cell_step Q13.out hs); have U9 := Lib.hid (U8.out.below hs); have X8 := Lib.hid (X7.out.below hs); have U26 := Lib.hid (U25.out.below hs); have Y5 := Lib.hid (Y4.out.below hs); have G3 := Lib.hid (cell_step G2.out hs); have H3 := Lib.hid (cell_step H2.out hs); clear R13 B13 P13 Q13 U8 X7 U25 Y4 G2 H2; have zz0_1 := P14.out; have zz1_1 := Q14.out; have zz2_1 := G3.out; have zz3_1 := H3.out; clear hs))
          clear htt i1 i2 i3 i4 i5
          have c0 := P14.out
          cases hok : (o.toList == k.toList) with
          | true =>
            go_wp2_with fail
            refine (awakeR L.out.1 _).mono ?_
            rintro ev w12 ⟨rfl, hs⟩
            have R15 := Lib.hid (R14.out.below hs)
            have B15 := Lib.hid (B14.out.trans (hs.mono B14.out.size))
            have P15 := Lib.hid (cell_step P14.out hs)
            have Q15 := Lib.hid (cell_step Q14.out hs)
            have U10 := Lib.hid (U9.out.below hs)
            have X9 := Lib.hid (X8.out.below hs)
            have U27 := Lib.hid (U26.out.below hs)
            have Y6 := Lib.hid (Y5.out.below hs)
            have G4 := Lib.hid (cell_step G3.out hs)
            have H4 := Lib.hid (cell_step H3.out hs)
            clear R14 B14 P14 Q14 U9 X8 U26 Y5 G3 H3
            clear hs
            go_wp2
            go_ret
            exact ⟨rfl, B15.out⟩
          | false =>
            have hne : o ≠ k := fun e => by rw [e] at hok; simp at hok
            have W1 := Lib.hid (put_other (k, x) o hne rs V.out)
            have W2 := Lib.hid (drop_other k o hne rs V.out)
            clear hne
            cases hlo : (fnd rs o).2 with
            | false =>
              have N0 := Lib.hid hlo
              have N1 := Lib.hid (lk_no W1.out hlo)
              have N2 := Lib.hid (lk_no W2.out hlo)
              clear hlo
              go_wp2_with fail
              refine (L.out.1.find v rs o _ R14.out K.out L.out.2.2.2).mono ?_
              rintro ev w12 ⟨rfl, hs⟩
              rw [N0.out]
              have R15 := Lib.hid (R14.out.below hs)
              have B15 := Lib.hid (B14.out.trans (hs.mono B14.out.size))
              have P15 := Lib.hid (cell_step P14.out hs)
              have Q15 := Lib.hid (cell_step Q14.out hs)
              have U10 := Lib.hid (U9.out.below hs)
              have X9 := Lib.hid (X8.out.below hs)
              have U27 := Lib.hid (U26.out.below hs)
              have Y6 := Lib.hid (Y5.out.below hs)
              have G4 := Lib.hid (cell_step G3.out hs)
              have H4 := Lib.hid (cell_step H3.out hs)
              clear R14 B14 P14 Q14 U9 X8 U26 Y5 G3 H3
              clear hs
              clear c0 hok
              go_wp2_with fail
              refine (L.out.1.find (.slice (some ⟨pb, po, none⟩) (ld + 1) pc) (putR rs (k, x)) o _ (hlp'.out ▸ X9.out) K1.out L.out.2.2.2).mono ?_
              rintro ev w13 ⟨rfl, hs⟩
              rw [N1.out]
              have R16 := Lib.hid (R15.out.below hs)
              have B16 := Lib.hid (B15.out.trans (hs.mono B15.out.size))
              have P16 := Lib.hid (cell_step P15.out hs)
              have Q16 := Lib.hid (cell_step Q15.out hs)
              have U11 := Lib.hid (U10.out.below hs)
              have X10 := Lib.hid (X9.out.below hs)
              have U28 := Lib.hid (U27.out.below hs)
              have Y7 := Lib.hid (Y6.out.below hs)
              have G5 := Lib.hid (cell_step G4.out hs)
              have H5 := Lib.hid (cell_step H4.out hs)
              clear R15 B15 P15 Q15 U10 X9 U27 Y6 G4 H4
              clear hs
              go_wp2_with fail
              refine (L.out.1.find (.slice da ld dc) (dropR rs k) o _ (hld'.out ▸ Y7.out) K2.out L.out.2.2.2).mono ?_
              rintro ev w14 ⟨rfl, hs⟩
              rw [N2.out]
              have R17 := Lib.hid (R16.out.below hs)
              have B17 := Lib.hid (B16.out.trans (hs.mono B16.out.size))
              have P17 := Lib.hid (cell_step P16.out hs)
              have Q17 := Lib.hid (cell_step Q16.out hs)
              have U12 := Lib.hid (U11.out.below hs)
              have X11 := Lib.hid (X10.out.below hs)
              have U29 := Lib.hid (U28.out.below hs)
              have Y8 := Lib.hid (Y7.out.below hs)
              have G6 := Lib.hid (cell_step G5.out hs)
              have H6 := Lib.hid (cell_step H5.out hs)
              clear R16 B16 P16 Q16 U11 X10 U28 Y7 G5 H5
              clear hs
              go_wp2_with fail
              refine wp_region_held_drew (S := fun _ => True) (by kernel_rfl) trivial (fun _ => ?_)
              refine wpAnyH_take (i := 0) (oi := ⟨some 134, _, _, _, _, none⟩) (v := ?v0) rfl (by kernel_rfl) (by kernel_rfl) (by kernel_rfl) (fun _ _ _ h => h) (Or.inl ⟨by rfl, ?hy0⟩) trivial ?rest0
              case hy0 => (intro w hSw; go_simp; try (with_reducible rfl))
              simp only [Act.put, List.setIfInBounds_toArray, List.set_cons_zero, List.set_cons_succ]
              refine wpAnyH_take (i := 1) (oi := ⟨some 135, _, _, _, _, none⟩) (v := ?v1) rfl (by kernel_rfl) (by kernel_rfl) (by kernel_rfl) (fun _ _ _ h => h) (Or.inl ⟨by rfl, ?hy1⟩) trivial ?rest1
              case hy1 => (intro w hSw; go_simp; try (with_reducible rfl))
              simp only [Act.put, List.setIfInBounds_toArray, List.set_cons_zero, List.set_cons_succ]
              refine wpAnyH_take (i := 2) (oi := ⟨some 136, _, _, _, _, none⟩) (v := ?v2) rfl (by kernel_rfl) (by kernel_rfl) (by kernel_rfl) (fun _ _ _ h => h) (Or.inl ⟨by rfl, ?hy2⟩) trivial ?rest2
              case hy2 => (intro w hSw; go_simp; try (with_reducible rfl))
              simp only [Act.put, List.setIfInBounds_toArray, List.set_cons_zero, List.set_cons_succ]
              refine wpAnyH_take (i := 3) (oi := ⟨some 137, _, _, _, _, none⟩) (v := ?v3) rfl (by kernel_rfl) (by kernel_rfl) (by kernel_rfl) (fun _ _ _ h => h) (Or.inl ⟨by rfl, ?hy3⟩) trivial ?rest3
              case hy3 => (intro w hSw; go_simp; try (with_reducible rfl))
              simp only [Act.put, List.setIfInBounds_toArray, List.set_cons_zero, List.set_cons_succ]
              refine wpAnyH_take (i := 4) (oi := ⟨some 138, _, _, _, _, some (3, true)⟩) (v := ?v4) rfl (by kernel_rfl) (by kernel_rfl) (by kernel_rfl) (fun _ _ _ h => h) (Or.inl ⟨by rfl, ?hy4⟩) trivial ?rest4
              case hy4 => (intro w hSw; go_simp; try (with_reducible rfl))
              simp only [Act.put, List.setIfInBounds_toArray, List.set_cons_zero, List.set_cons_succ]
              refine wpAnyH_take (i := 5) (oi := ⟨some 139, _, _, _, _, some (3, true)⟩) (v := ?v5) rfl (by kernel_rfl) (by kernel_rfl) (by kernel_rfl) (fun _ _ _ h => h) (Or.inl ⟨by rfl, ?hy5⟩) trivial ?rest5
              case hy5 => (intro w hSw; go_simp; try (with_reducible rfl))
              simp only [Act.put, List.setIfInBounds_toArray, List.set_cons_zero, List.set_cons_succ]
              refine wpAnyH_take (i := 6) (oi := ⟨some 140, _, _, _, _, some (3, true)⟩) (v := ?v6) rfl (by kernel_rfl) (by kernel_rfl) (by kernel_rfl) (fun _ _ _ h => h) (Or.inl ⟨by rfl, ?hy6⟩) trivial ?rest6
              case hy6 => (intro w hSw; go_simp; try (with_reducible rfl))
              simp only [Act.put, List.setIfInBounds_toArray, List.set_cons_zero, List.set_cons_succ]
              refine wpAnyH_take (i := 7) (oi := ⟨some 141, _, _, _, _, none⟩) (v := ?v7) rfl (by kernel_rfl) (by kernel_rfl) (by kernel_rfl) (fun _ _ _ h => h) (Or.inl ⟨by rfl, ?hy7⟩) trivial ?rest7
              case hy7 => (intro w hSw; go_simp; try (with_reducible rfl))
              simp only [Act.put, List.setIfInBounds_toArray, List.set_cons_zero, List.set_cons_succ]
              refine wpAnyH_take (i := 8) (oi := ⟨some 142, _, _, _, _, none⟩) (v := ?v8) rfl (by kernel_rfl) (by kernel_rfl) (by kernel_rfl) (fun _ _ _ h => h) (Or.inl ⟨by rfl, ?hy8⟩) trivial ?rest8
              case hy8 => (intro w hSw; go_simp; try (with_reducible rfl))
              simp only [Act.put, List.setIfInBounds_toArray, List.set_cons_zero, List.set_cons_succ]
              refine wpAnyH_take (i := 9) (oi := ⟨some 143, _, _, _, _, some (8, true)⟩) (v := ?v9) rfl (by kernel_rfl) (by kernel_rfl) (by kernel_rfl) (fun _ _ _ h => h) (Or.inl ⟨by rfl, ?hy9⟩) trivial ?rest9
              case hy9 => (intro w hSw; go_simp; try (with_reducible rfl))
              simp only [Act.put, List.setIfInBounds_toArray, List.set_cons_zero, List.set_cons_succ]
              refine wpAnyH_take (i := 10) (oi := ⟨some 144, _, _, _, _, some (8, true)⟩) (v := ?v10) rfl (by kernel_rfl) (by kernel_rfl) (by kernel_rfl) (fun _ _ _ h => h) (Or.inl ⟨by rfl, ?hy10⟩) trivial ?rest10
              case hy10 => (intro w hSw; go_simp; try (with_reducible rfl))
              simp only [Act.put, List.setIfInBounds_toArray, List.set_cons_zero, List.set_cons_succ]
              refine wpAnyH_take (i := 11) (oi := ⟨some 145, _, _, _, _, some (8, true)⟩) (v := ?v11) rfl (by kernel_rfl) (by kernel_rfl) (by kernel_rfl) (fun _ _ _ h => h) (Or.inl ⟨by rfl, ?hy11⟩) trivial ?rest11
              case hy11 => (intro w hSw; go_simp; try (with_reducible rfl))
              simp only [Act.put, List.setIfInBounds_toArray, List.set_cons_zero, List.set_cons_succ]
              refine wpAnyH_take (i := 12) (oi := ⟨some 146, _, _, _, _, some (11, false)⟩) (v := undef) rfl (by kernel_rfl) (by kernel_rfl) (by kernel_rfl) (fun _ _ _ h => h) (Or.inr ⟨by rfl, rfl⟩) trivial ?rest12
              simp only [Act.put, List.setIfInBounds_toArray, List.set_cons_zero, List.set_cons_succ]
              refine wpAnyH_take (i := 13) (oi := ⟨some 147, _, _, _, _, some (11, false)⟩) (v := undef) rfl (by kernel_rfl) (by kernel_rfl) (by kernel_rfl) (fun _ _ _ h => h) (Or.inr ⟨by rfl, rfl⟩) trivial ?rest13
              simp only [Act.put, List.setIfInBounds_toArray, List.set_cons_zero, List.set_cons_succ]
              refine wpAnyH_take (i := 14) (oi := ⟨some 148, _, _, _, _, some (11, false)⟩) (v := undef) rfl (by kernel_rfl) (by kernel_rfl) (by kernel_rfl) (fun _ _ _ h => h) (Or.inr ⟨by rfl, rfl⟩) trivial ?rest14
              simp only [Act.put, List.setIfInBounds_toArray, List.set_cons_zero, List.set_cons_succ]
              refine wpAnyH_take (i := 15) (oi := ⟨some 149, _, _, _, _, some (11, false)⟩) (v := undef) rfl (by kernel_rfl) (by kernel_rfl) (by kernel_rfl) (fun _ _ _ h => h) (Or.inr ⟨by rfl, rfl⟩) trivial ?rest15
              simp only [Act.put, List.setIfInBounds_toArray, List.set_cons_zero, List.set_cons_succ]
              refine wpAnyH_take (i := 16) (oi := ⟨some 150, _, _, _, _, some (11, false)⟩) (v := undef) rfl (by kernel_rfl) (by kernel_rfl) (by kernel_rfl) (fun _ _ _ h => h) (Or.inr ⟨by rfl, rfl⟩) trivial ?rest16
              simp only [Act.put, List.setIfInBounds_toArray, List.set_cons_zero, List.set_cons_succ]
              refine wpAnyH_take (i := 17) (oi := ⟨some 151, _, _, _, _, some (11, false)⟩) (v := undef) rfl (by kernel_rfl) (by kernel_rfl) (by kernel_rfl) (fun _ _ _ h => h) (Or.inr ⟨by rfl, rfl⟩) trivial ?rest17
              simp only [Act.put, List.setIfInBounds_toArray, List.set_cons_zero, List.set_cons_succ]
              refine wpAnyH_take (i := 18) (oi := ⟨some 152, _, _, _, _, some (11, false)⟩) (v := undef) rfl (by kernel_rfl) (by kernel_rfl) (by kernel_rfl) (fun _ _ _ h => h) (Or.inr ⟨by rfl, rfl⟩) trivial ?rest18
              simp only [Act.put, List.setIfInBounds_toArray, List.set_cons_zero, List.set_cons_succ]
              refine wpAnyH_take (i := 19) (oi := ⟨some 153, _, _, _, _, some (11, false)⟩) (v := undef) rfl (by kernel_rfl) (by kernel_rfl) (by kernel_rfl) (fun _ _ _ h => h) (Or.inr ⟨by rfl, rfl⟩) trivial ?rest19
              simp only [Act.put, List.setIfInBounds_toArray, List.set_cons_zero, List.set_cons_succ]
              refine wpAnyH_take (i := 20) (oi := ⟨some 154, _, _, _, _, some (11, false)⟩) (v := undef) rfl (by kernel_rfl) (by kernel_rfl) (by kernel_rfl) (fun _ _ _ h => h) (Or.inr ⟨by rfl, rfl⟩) trivial ?rest20
              simp only [Act.put, List.setIfInBounds_toArray, List.set_cons_zero, List.set_cons_succ]
              refine wpAnyH_take (i := 21) (oi := ⟨some 155, _, _, _, _, some (11, false)⟩) (v := undef) rfl (by kernel_rfl) (by kernel_rfl) (by kernel_rfl) (fun _ _ _ h => h) (Or.inr ⟨by rfl, rfl⟩) trivial ?rest21
              simp only [Act.put, List.setIfInBounds_toArray, List.set_cons_zero, List.set_cons_succ]
              refine wpAnyH_take (i := 22) (oi := ⟨some 156, _, _, _, _, some (21, true)⟩) (v := undef) rfl (by kernel_rfl) (by kernel_rfl) (by kernel_rfl) (fun _ _ _ h => h) (Or.inr ⟨by rfl, rfl⟩) trivial ?rest22
              simp only [Act.put, List.setIfInBounds_toArray, List.set_cons_zero, List.set_cons_succ]
              refine wpAnyH_take (i := 23) (oi := ⟨some 157, _, _, _, _, some (21, true)⟩) (v := undef) rfl (by kernel_rfl) (by kernel_rfl) (by kernel_rfl) (fun _ _ _ h => h) (Or.inr ⟨by rfl, rfl⟩) trivial ?rest23
              simp only [Act.put, List.setIfInBounds_toArray, List.set_cons_zero, List.set_cons_succ]
              refine wpAnyH_take (i := 24) (oi := ⟨some 158, _, _, _, _, some (21, true)⟩) (v := undef) rfl (by kernel_rfl) (by kernel_rfl) (by kernel_rfl) (fun _ _ _ h => h) (Or.inr ⟨by rfl, rfl⟩) trivial ?rest24
              simp only [Act.put, List.setIfInBounds_toArray, List.set_cons_zero, List.set_cons_succ]
              refine wpAnyH_take (i := 25) (oi := ⟨some 159, _, _, _, _, some (21, true)⟩) (v := undef) rfl (by kernel_rfl) (by kernel_rfl) (by kernel_rfl) (fun _ _ _ h => h) (Or.inr ⟨by rfl, rfl⟩) trivial ?rest25
              simp only [Act.put, List.setIfInBounds_toArray, List.set_cons_zero, List.set_cons_succ]
              refine wpAnyH_take (i := 26) (oi := ⟨some 160, _, _, _, _, some (21, true)⟩) (v := undef) rfl (by kernel_rfl) (by kernel_rfl) (by kernel_rfl) (fun _ _ _ h => h) (Or.inr ⟨by rfl, rfl⟩) trivial ?rest26
              simp only [Act.put, List.setIfInBounds_toArray, List.set_cons_zero, List.set_cons_succ]
              refine wpAnyH_take (i := 27) (oi := ⟨some 161, _, _, _, _, some (21, true)⟩) (v := undef) rfl (by kernel_rfl) (by kernel_rfl) (by kernel_rfl) (fun _ _ _ h => h) (Or.inr ⟨by rfl, rfl⟩) trivial ?rest27
              simp only [Act.put, List.setIfInBounds_toArray, List.set_cons_zero, List.set_cons_succ]
              refine wpAnyH_take (i := 28) (oi := ⟨some 162, _, _, _, _, some (21, true)⟩) (v := undef) rfl (by kernel_rfl) (by kernel_rfl) (by kernel_rfl) (fun _ _ _ h => h) (Or.inr ⟨by rfl, rfl⟩) trivial ?rest28
              simp only [Act.put, List.setIfInBounds_toArray, List.set_cons_zero, List.set_cons_succ]
              refine wpAnyH_take (i := 29) (oi := ⟨some 163, _, _, _, _, some (21, true)⟩) (v := undef) rfl (by kernel_rfl) (by kernel_rfl) (by kernel_rfl) (fun _ _ _ h => h) (Or.inr ⟨by rfl, rfl⟩) trivial ?rest29
              simp only [Act.put, List.setIfInBounds_toArray, List.set_cons_zero, List.set_cons_succ]
              refine wpAnyH_take (i := 30) (oi := ⟨some 164, _, _, _, _, some (21, true)⟩) (v := undef) rfl (by kernel_rfl) (by kernel_rfl) (by kernel_rfl) (fun _ _ _ h => h) (Or.inr ⟨by rfl, rfl⟩) trivial ?rest30
              simp only [Act.put, List.setIfInBounds_toArray, List.set_cons_zero, List.set_cons_succ]
              refine wpAnyH_take (i := 31) (oi := ⟨some 165, _, _, _, _, some (11, false)⟩) (v := undef) rfl (by kernel_rfl) (by kernel_rfl) (by kernel_rfl) (fun _ _ _ h => h) (Or.inr ⟨by rfl, rfl⟩) trivial ?rest31
              simp only [Act.put, List.setIfInBounds_toArray, List.set_cons_zero, List.set_cons_succ]
              refine wpAnyH_take (i := 32) (oi := ⟨some 166, _, _, _, _, some (8, true)⟩) (v := ?v32) rfl (by kernel_rfl) (by kernel_rfl) (by kernel_rfl) (fun _ _ _ h => h) (Or.inl ⟨by rfl, ?hy32⟩) trivial ?rest32
              case hy32 => (intro w hSw; go_simp; try (with_reducible rfl))
              simp only [Act.put, List.setIfInBounds_toArray, List.set_cons_zero, List.set_cons_succ]
              refine wpAnyH_take (i := 33) (oi := ⟨some 167, _, _, _, _, none⟩) (v := ?v33) rfl (by kernel_rfl) (by kernel_rfl) (by kernel_rfl) (fun _ _ _ h => h) (Or.inl ⟨by rfl, ?hy33⟩) trivial ?rest33
              case hy33 => (intro w hSw; go_simp; try (with_reducible rfl))
              simp only [Act.put, List.setIfInBounds_toArray, List.set_cons_zero, List.set_cons_succ]
              refine wpAnyH_take (i := 34) (oi := ⟨some 168, _, _, _, _, none⟩) (v := ?v34) rfl (by kernel_rfl) (by kernel_rfl) (by kernel_rfl) (fun _ _ _ h => h) (Or.inl ⟨by rfl, ?hy34⟩) trivial ?rest34
              case hy34 => (intro w hSw; go_simp; try (with_reducible rfl))
              simp only [Act.put, List.setIfInBounds_toArray, List.set_cons_zero, List.set_cons_succ]
              refine wpAnyH_ready (rs := [35]) (by kernel_rfl) (by simp) ?_
              refine AllReadyH.cons (o := ⟨some 169, _, _, _, _, some (34, true)⟩) rfl (fun K hK => ?_) AllReadyH.nil
              go_simp
              go_at_call 12
              refine (awakeR L.out.1 _).mono ?_
              rintro e wz ⟨rfl, hs⟩
              have BZ := Lib.hid (B17.out.drew.trans (hs.mono B17.out.drew.size))
              clear hs
              refine hK.out _ _ trivial (fun _ => ?_)
              clear hK K
              try simp only [Act.put, List.setIfInBounds_toArray, List.set_cons_zero, List.set_cons_succ]
              refine wpAnyH_take (i := 36) (oi := ⟨some 170, _, _, _, _, none⟩) (v := ?v36) rfl (by kernel_rfl) (by kernel_rfl) (by kernel_rfl) (fun _ _ _ h => h) (Or.inl ⟨by rfl, ?hy36⟩) trivial ?rest36
              case hy36 => (intro w hSw; go_simp; try (with_reducible rfl))
              simp only [Act.put, List.setIfInBounds_toArray, List.set_cons_zero, List.set_cons_succ]
              refine wpAnyH_take (i := 37) (oi := ⟨some 6, _, _, _, _, none⟩) (v := ?v37) rfl (by kernel_rfl) (by kernel_rfl) (by kernel_rfl) (fun _ _ _ h => h) (Or.inl ⟨by rfl, ?hy37⟩) trivial ?rest37
              case hy37 => (intro w hSw; go_simp; try (with_reducible rfl))
              simp only [Act.put, List.setIfInBounds_toArray, List.set_cons_zero, List.set_cons_succ]
              refine wpAnyH_done (by kernel_rfl) ?_ _
              go_wp2
              go_ret
              exact ⟨rfl, BZ.out⟩
            | true =>
              have N0 := Lib.hid hlo
              have N1 := Lib.hid (lk_yes W1.out hlo).1
              have N2 := Lib.hid (lk_yes W2.out hlo).1
              have E1 := Lib.hid (lk_yes W1.out hlo).2
              have E2 := Lib.hid (lk_yes W2.out hlo).2
              clear hlo
              have ha := (fnd_there _ _ N0.out).1
              have hb := (fnd_there _ _ N1.out).1
              have hc := (fnd_there _ _ N2.out).1
              rw [hlp'.out] at hb
              rw [hld'.out] at hc
              rcases R14.out.form with ⟨-, he⟩ | ⟨vb, vo, vc, hvv, hvl, hvm, hvc⟩
              · rw [he] at ha; exact absurd ha (by simp)
              have y0 := (hvc _ ha).1
              have y1 := (hvc _ ha).2
              obtain ⟨qb, qo, qc, hqv, -, -, hqc⟩ := X8.out.form.resolve_left (fun ⟨_, he⟩ => by rw [he] at hlp'; exact absurd hlp'.out (by simp))
              obtain ⟨eb, ec⟩ : pb = qb ∧ po = qo := by have := (Value.slice.inj hqv).1; simpa using this
              subst eb ec
              have y2 := (hqc _ (by rw [hlp'.out]; exact hb)).1
              have y3 := (hqc _ (by rw [hlp'.out]; exact hb)).2
              rcases Y5.out.form with ⟨-, he⟩ | ⟨db, dd, dcc, hdv, -, -, hdc⟩
              · rw [he] at hld'; have := hld'.out; simp at this; omega
              have y4 := (hdc _ (by rw [hld'.out]; exact hc)).1
              have y5 := (hdc _ (by rw [hld'.out]; exact hc)).2
              rw [hld'.out] at hdv
              obtain ⟨rfl, -, rfl⟩ := Value.slice.inj hdv
              subst hvv
              rw [E1.out] at y2 y3
              rw [E2.out] at y4 y5
              clear hvc hqc hdc hqv hdv
              have Ya0 := Lib.hid (y0)
              have Yb0 := Lib.hid (y1)
              have Yc0 := Lib.hid (y2)
              have Yd0 := Lib.hid (y3)
              have Ye0 := Lib.hid (y4)
              have Yf0 := Lib.hid (y5)
              clear y0 y1 y2 y3 y4 y5
              obtain ⟨ia, hia⟩ : ∃ ia, (fnd rs o).1 = ia := ⟨_, rfl⟩
              obtain ⟨ib, hib⟩ : ∃ ib, (fnd (putR rs (k, x)) o).1 = ib := ⟨_, rfl⟩
              obtain ⟨ic, hic⟩ : ∃ ic, (fnd (dropR rs k) o).1 = ic := ⟨_, rfl⟩
              have J0 := Lib.hid hia
              have J1 := Lib.hid hib
              have J2 := Lib.hid hic
              rw [hia] at ha Ya0 Yb0 Yc0 Yd0 Ye0 Yf0
              rw [hib] at hb Yc0 Yd0
              rw [hic] at hc Ye0 Yf0
              clear hia hib hic
              generalize (rs.getD ia r0).1 = y1 at *
              generalize (rs.getD ia r0).2 = y2 at *
              unfold maxLen at hvm
              go_wp2_with fail
              refine (L.out.1.find (.slice (some ⟨vb, vo, none⟩) rs.length vc) rs o _ R14.out K.out L.out.2.2.2).mono ?_
              rintro ev w12 ⟨rfl, hs⟩
              rw [N0.out, J0.out]
              have R15 := Lib.hid (R14.out.below hs)
              have B15 := Lib.hid (B14.out.trans (hs.mono B14.out.size))
              have P15 := Lib.hid (cell_step P14.out hs)
              have Q15 := Lib.hid (cell_step Q14.out hs)
              have U10 := Lib.hid (U9.out.below hs)
              have X9 := Lib.hid (X8.out.below hs)
              have U27 := Lib.hid (U26.out.below hs)
              have Y6 := Lib.hid (Y5.out.below hs)
              have G4 := Lib.hid (cell_step G3.out hs)
              have H4 := Lib.hid (cell_step H3.out hs)
              have Ya1 := Lib.hid (cell_step Ya0.out hs)
              have Yb1 := Lib.hid (cell_step Yb0.out hs)
              have Yc1 := Lib.hid (cell_step Yc0.out hs)
              have Yd1 := Lib.hid (cell_step Yd0.out hs)
              have Ye1 := Lib.hid (cell_step Ye0.out hs)
              have Yf1 := Lib.hid (cell_step Yf0.out hs)
              clear R14 B14 P14 Q14 U9 X8 U26 Y5 G3 H3 Ya0 Yb0 Yc0 Yd0 Ye0 Yf0
              clear hs
              clear c0 hok
              go_wp2_with fail
              refine (L.out.1.find (.slice (some ⟨pb, po, none⟩) (ld + 1) pc) (putR rs (k, x)) o _ (hlp'.out ▸ X9.out) K1.out L.out.2.2.2).mono ?_
              rintro ev w13 ⟨rfl, hs⟩
              rw [N1.out, J1.out]
              have R16 := Lib.hid (R15.out.below hs)
              have B16 := Lib.hid (B15.out.trans (hs.mono B15.out.size))
              have P16 := Lib.hid (cell_step P15.out hs)
              have Q16 := Lib.hid (cell_step Q15.out hs)
              have U11 := Lib.hid (U10.out.below hs)
              have X10 := Lib.hid (X9.out.below hs)
              have U28 := Lib.hid (U27.out.below hs)
              have Y7 := Lib.hid (Y6.out.below hs)
              have G5 := Lib.hid (cell_step G4.out hs)
              have H5 := Lib.hid (cell_step H4.out hs)
              have Ya2 := Lib.hid (cell_step Ya1.out hs)
              have Yb2 := Lib.hid (cell_step Yb1.out hs)
              have Yc2 := Lib.hid (cell_step Yc1.out hs)
              have Yd2 := Lib.hid (cell_step Yd1.out hs)
              have Ye2 := Lib.hid (cell_step Ye1.out hs)
              have Yf2 := Lib.hid (cell_step Yf1.out hs)
              clear R15 B15 P15 Q15 U10 X9 U27 Y6 G4 H4 Ya1 Yb1 Yc1 Yd1 Ye1 Yf1
              clear hs
              go_wp2_with fail
              refine (L.out.1.find (.slice (some ⟨db, dd, none⟩) ld dc) (dropR rs k) o _ (hld'.out ▸ Y7.out) K2.out L.out.2.2.2).mono ?_
              rintro ev w14 ⟨rfl, hs⟩
              rw [N2.out, J2.out]
              have R17 := Lib.hid (R16.out.below hs)
              have B17 := Lib.hid (B16.out.trans (hs.mono B16.out.size))
              have P17 := Lib.hid (cell_step P16.out hs)
              have Q17 := Lib.hid (cell_step Q16.out hs)
              have U12 := Lib.hid (U11.out.below hs)
              have X11 := Lib.hid (X10.out.below hs)
              have U29 := Lib.hid (U28.out.below hs)
              have Y8 := Lib.hid (Y7.out.below hs)
              have G6 := Lib.hid (cell_step G5.out hs)
              have H6 := Lib.hid (cell_step H5.out hs)
              have Ya3 := Lib.hid (cell_step Ya2.out hs)
              have Yb3 := Lib.hid (cell_step Yb2.out hs)
              have Yc3 := Lib.hid (cell_step Yc2.out hs)
              have Yd3 := Lib.hid (cell_step Yd2.out hs)
              have Ye3 := Lib.hid (cell_step Ye2.out hs)
              have Yf3 := Lib.hid (cell_step Yf2.out hs)
              clear R16 B16 P16 Q16 U11 X10 U28 Y7 G5 H5 Ya2 Yb2 Yc2 Yd2 Ye2 Yf2
              clear hs
              have i1 : (0 : Int) ≤ (ia : Int) := by omega
              have i2 : (ia : Int) < (rs.length : Int) := by omega
              have i3 : (0 : Int) ≤ (ib : Int) := by omega
              have i4 : (ib : Int) < (ld : Int) + 1 := by omega
              have i5 : (0 : Int) ≤ (ic : Int) := by omega
              have i6 : (ic : Int) < (ld : Int) := by omega
              have j3 : (y1.toList == y1.toList) = true := by simp
              have j4 : (y2.toList == y2.toList) = true := by simp
              go_wp2_with fail
              have R18 := Lib.hid (R17.out.below (Below.refl _ _).drew)
              have B18 := Lib.hid (B17.out.trans ((Below.refl _ _).drew.mono B17.out.size))
              have P18 := Lib.hid (cell_step P17.out (Below.refl _ _).drew)
              have Q18 := Lib.hid (cell_step Q17.out (Below.refl _ _).drew)
              have U13 := Lib.hid (U12.out.below (Below.refl _ _).drew)
              have X12 := Lib.hid (X11.out.below (Below.refl _ _).drew)
              have U210 := Lib.hid (U29.out.below (Below.refl _ _).drew)
              have Y9 := Lib.hid (Y8.out.below (Below.refl _ _).drew)
              have G7 := Lib.hid (cell_step G6.out (Below.refl _ _).drew)
              have H7 := Lib.hid (cell_step H6.out (Below.refl _ _).drew)
              have Ya4 := Lib.hid (cell_step Ya3.out (Below.refl _ _).drew)
              have Yb4 := Lib.hid (cell_step Yb3.out (Below.refl _ _).drew)
              have Yc4 := Lib.hid (cell_step Yc3.out (Below.refl _ _).drew)
              have Yd4 := Lib.hid (cell_step Yd3.out (Below.refl _ _).drew)
              have Ye4 := Lib.hid (cell_step Ye3.out (Below.refl _ _).drew)
              have Yf4 := Lib.hid (cell_step Yf3.out (Below.refl _ _).drew)
              clear R17 B17 P17 Q17 U12 X11 U29 Y8 G6 H6 Ya3 Yb3 Yc3 Yd3 Ye3 Yf3
              have zz0 := Ya4.out
              have zz1 := Yb4.out
              have zz2 := Yc4.out
              have zz3 := Yd4.out
              have zz4 := Ye4.out
              have zz5 := Yf4.out
              go_region_held3 (fun w' => w'.cell? ⟨vb, vo + ia * 2, none⟩ = some (.string y1) ∧ w'.cell? ⟨vb, vo + ia * 2 + 1, none⟩ = some (.string y2) ∧ w'.cell? ⟨pb, po + ib * 2, none⟩ = some (.string y1) ∧ w'.cell? ⟨pb, po + ib * 2 + 1, none⟩ = some (.string y2) ∧ w'.cell? ⟨db, dd + ic * 2, none⟩ = some (.string y1) ∧ w'.cell? ⟨db, dd + ic * 2 + 1, none⟩ = some (.string y2))
                (first | exact ⟨by assumption, by assumption, by assumption, by assumption, by assumption, by assumption⟩ | go_keep)
                (first
                  | (go_at_call 12; (with_reducible refine (awakeR L.out.1 _).mono ?_); rintro e w15 ⟨rfl, hs⟩; have R19 := Lib.hid (R18.out.below hs); have B19 := Lib.hid (B18.out.trans (hs.mono B18.out.size)); have P19 := Lib.hid (cell_step P18.out hs); have Q19 := Lib.hid (cell_step Q18.out hs); have U14 := Lib.hid (U13.out.below hs); have X13 := Lib.hid (X12.out.below hs); have U211 := Lib.hid (U210.out.below hs); have Y10 := Lib.hid (Y9.out.below hs); have G8 := Lib.hid (cell_step G7.out hs); have H8 := Lib.hid (cell_step H7.out hs); have Ya5 := Lib.hid (cell_step Ya4.out hs); have Yb5 := Lib.hid (cell_step Yb4.out hs); have Yc5 := Lib.hid (cell_step Yc4.out hs); have Yd5 := Lib.hid (cell_step Yd4.out hs); have Ye5 := Lib.hid (cell_step Ye4.out hs); have Yf5 := Lib.hid (cell_step Yf4.out hs); clear R18 B18 P18 Q18 U13 X12 U210 Y9 G7 H7 Ya4 Yb4 Yc4 Yd4 Ye4 Yf4; have zz0_0 := Ya5.out; have zz1_0 := Yb5.out; have zz2_0 := Yc5.out; have zz3_0 := Yd5.out; have zz4_0 := Ye5.out; have zz5_0 := Yf5.out; clear hs))
              go_wp2
              go_ret
              exact ⟨rfl, B19.out⟩
        · go_wp2_with fail
          refine (awakeR L.out.1 _).mono ?_
          rintro ev w4 ⟨rfl, hs⟩
          have R4 := Lib.hid (R3.out.below hs)
          have B4 := Lib.hid (B3.out.trans (hs.mono B3.out.size))
          have P4 := Lib.hid (cell_step P3.out hs)
          have Q4 := Lib.hid (cell_step Q3.out hs)
          clear R3 B3 P3 Q3
          clear hs
          go_wp2
          go_ret
          exact ⟨rfl, B4.out⟩
end Go.Proofs.Ytaaikmompiejdaa
