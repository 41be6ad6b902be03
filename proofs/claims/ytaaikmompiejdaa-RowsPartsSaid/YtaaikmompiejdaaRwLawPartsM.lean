/- The walk of the law RowsParts, out of package rows's contracts: the cut is not at the end of the slice's room. -/
import Derived.Test.YtaaikmompiejdaaRwLawPartsN
namespace Go.Proofs.Ytaaikmompiejdaa
open Go.RowKit

set_option maxRecDepth 100000 in
set_option maxHeartbeats 4000000 in
theorem lawParts_mid (C : RwC) (b off cap n : Nat) (u : Value) (rs ss : List Rw) (key : ByteArray) (w : World) (hv : RowsV w (.slice (some ⟨b, off, none⟩) rs.length cap) rs) (hlc : rs.length ≤ cap) (_hcm : cap ≤ maxLen) (hu : RowsV w u ss) (hk : key.size ≤ maxLen) (hn : (fnd rs key).1 = n) (hcn : ¬ cap = n) :
    Calls Try.prog 5 #[.slice (some ⟨b, off, none⟩) rs.length cap, u, .string key] w fun ev w' => ev = .returned (.bool true) ∧ Below w.heap.size w w' := by
  have hnot : ∀ (x : Bool) (w : World), (Op.unary .not (.bool x)).run Try.prog w = .ok (.bool (!x)) w := fun _ _ => rfl
  obtain ⟨ua, uc, rfl, -, -⟩ := hu.lenform
  have L : Aside (RwC ∧ key.size ≤ maxLen) := ⟨C, hk⟩
  have R0 := Lib.hid (hv)
  have U0 := Lib.hid (hu)
  have B0 := Lib.hid (Below.refl w.heap.size w)
  have hnl : n ≤ rs.length := by rw [← hn]; exact fnd_le rs key
  have E := Lib.hid hn
  unfold maxLen at _hcm hk
  clear hn C hv hu
  have i1 : (0 : Int) ≤ (n : Int) := by omega
  have i2 : (n : Int) ≤ (rs.length : Int) := by omega
  have i3 : (n : Int) ≤ (cap : Int) := by omega
  have i4 : (rs.length : Int) ≤ (cap : Int) := by omega
  go_enter Try.func5, Try.ntmps5
  go_wp2_with fail
  refine (rfew_any (.slice (some ⟨b, off, none⟩) rs.length cap) rs _ R0.out).mono ?_
  rintro ev w1 ⟨rfl, hs⟩
  have R1 := Lib.hid (R0.out.below hs)
  have U1 := Lib.hid (U0.out.below hs)
  have B1 := Lib.hid (B0.out.trans (hs.mono B0.out.size))
  clear R0 U0 B0
  clear hs
  cases hf : fewR rs with
  | false =>
    clear hf
    go_wp2_with fail
    refine (awakeR L.out.1 _).mono ?_
    rintro ev w2 ⟨rfl, hs⟩
    have R2 := Lib.hid (R1.out.below hs)
    have U2 := Lib.hid (U1.out.below hs)
    have B2 := Lib.hid (B1.out.trans (hs.mono B1.out.size))
    clear R1 U1 B1
    clear hs
    go_wp2
    go_ret
    exact ⟨rfl, B2.out⟩
  | true =>
    have K := Lib.hid (show rs.length ≤ 1000 by have := fewR_len hf; omega)
    clear hf
    go_wp2_with fail
    refine (rfew_any (.slice ua ss.length uc) ss _ U1.out).mono ?_
    rintro ev w2 ⟨rfl, hs⟩
    have R2 := Lib.hid (R1.out.below hs)
    have U2 := Lib.hid (U1.out.below hs)
    have B2 := Lib.hid (B1.out.trans (hs.mono B1.out.size))
    clear R1 U1 B1
    clear hs
    cases hf2 : fewR ss with
    | false =>
      clear hf2
      go_wp2_with fail
      refine (awakeR L.out.1 _).mono ?_
      rintro ev w3 ⟨rfl, hs⟩
      have R3 := Lib.hid (R2.out.below hs)
      have U3 := Lib.hid (U2.out.below hs)
      have B3 := Lib.hid (B2.out.trans (hs.mono B2.out.size))
      clear R2 U2 B2
      clear hs
      go_wp2
      go_ret
      exact ⟨rfl, B3.out⟩
    | true =>
      have K2 := Lib.hid (show ss.length ≤ 1000 by have := fewR_len hf2; omega)
      clear hf2
      by_cases hk1 : key.size ≤ 100
      · go_wp2_with fail
        refine (L.out.1.cut (.slice (some ⟨b, off, none⟩) rs.length cap) rs key _ R2.out K.out L.out.2).mono ?_
        rintro ev w3 ⟨a, e, rfl, h1, h2, hs⟩
        rw [E.out] at h1 h2
        have R3 := Lib.hid (R2.out.below hs)
        have U3 := Lib.hid (U2.out.below hs)
        have B3 := Lib.hid (B2.out.trans (hs.mono B2.out.size))
        clear R2 U2 B2
        have A0 := Lib.hid (h1)
        have D0 := Lib.hid (h2)
        clear hs h1 h2
        go_wp2_with fail
        refine (refFind_any (.slice (some ⟨b, off, none⟩) rs.length cap) rs key _ R3.out L.out.2).mono ?_
        rintro ev w4 ⟨rfl, hs⟩
        rw [E.out]
        have R4 := Lib.hid (R3.out.below hs)
        have U4 := Lib.hid (U3.out.below hs)
        have B4 := Lib.hid (B3.out.trans (hs.mono B3.out.size))
        have A1 := Lib.hid (A0.out.below hs)
        have D1 := Lib.hid (D0.out.below hs)
        clear R3 U3 B3 A0 D0
        clear hs
        generalize (fnd rs key).2 = ft at *
        go_wp2_with fail
        refine (refSame_any a _ _ _ _ A1.out (R4.out.takeV (k := n) hnl)).mono ?_
        rintro ev w5 ⟨rfl, hs⟩
        rw [sameR_self]
        have R5 := Lib.hid (R4.out.below hs)
        have U5 := Lib.hid (U4.out.below hs)
        have B5 := Lib.hid (B4.out.trans (hs.mono B4.out.size))
        have A2 := Lib.hid (A1.out.below hs)
        have D2 := Lib.hid (D1.out.below hs)
        clear R4 U4 B4 A1 D1
        clear hs
        go_wp2_with fail
        refine (refSame_any e _ _ _ _ D2.out (R5.out.dropV (k := n) hnl)).mono ?_
        rintro ev w6 ⟨rfl, hs⟩
        rw [sameR_self]
        have R6 := Lib.hid (R5.out.below hs)
        have U6 := Lib.hid (U5.out.below hs)
        have B6 := Lib.hid (B5.out.trans (hs.mono B5.out.size))
        have A3 := Lib.hid (A2.out.below hs)
        have D3 := Lib.hid (D2.out.below hs)
        clear R5 U5 B5 A2 D2
        clear hs
        clear A3
        clear D3
        clear hnl i1 i2 i4 i3 hcn
        by_cases h2 : rs.length < 2
        · go_wp2_with fail
          refine (L.out.1.halveNo (.slice (some ⟨b, off, none⟩) rs.length cap) rs _ R6.out K.out (by unfold halfB; rw [decide_eq_false (by omega)]; rfl)).mono ?_
          rintro ev w7 ⟨x, y, rfl, h1, h2', hs⟩
          rw [if_pos h2]
          have R7 := Lib.hid (R6.out.below hs)
          have U7 := Lib.hid (U6.out.below hs)
          have B7 := Lib.hid (B6.out.trans (hs.mono B6.out.size))
          clear R6 U6 B6
          have X0 := Lib.hid (h1)
          have Y0 := Lib.hid (h2')
          clear hs h1
          obtain ⟨xa, xc, hx, -, -⟩ := X0.out.lenform
          obtain ⟨ya, yc, hy, -, -⟩ := Y0.out.lenform
          subst hx hy
          simp only [List.length_nil]
          clear X0 Y0
          go_wp2_with fail
          refine (refHalve_few (.slice (some ⟨b, off, none⟩) rs.length cap) rs _ R7.out h2).mono ?_
          rintro ev w8 ⟨rfl, hs⟩
          have R8 := Lib.hid (R7.out.below hs)
          have U8 := Lib.hid (U7.out.below hs)
          have B8 := Lib.hid (B7.out.trans (hs.mono B7.out.size))
          clear R7 U7 B7
          clear hs
          go_wp2_with fail
          refine (Is_code 2 2 _).mono ?_
          rintro ev w9 ⟨rfl, rfl⟩
          have e1 : ((2 : Int) == 2) = true := rfl
          rw [e1]
          clear e1
          by_cases h0 : rs.length = 0
          · have he := List.eq_nil_of_length_eq_zero h0
            subst he
            simp only [List.length_nil]
            clear h2 h0
            have R9 := Lib.hid ((show RowsV _ (.slice (some ⟨b, off, none⟩) 0 cap) [] from R8.out))
            go_wp2_with fail
            refine (L.out.1.join (.slice (some ⟨b, off, none⟩) 0 cap) (.slice ua ss.length uc) [] ss _ R9.out U8.out K.out K2.out rfl).mono ?_
            rintro ev w10 ⟨j, rfl, h1, hs⟩
            have R10 := Lib.hid (R9.out.below hs)
            have U9 := Lib.hid (U8.out.below hs)
            have B9 := Lib.hid (B8.out.trans (hs.mono B8.out.size))
            clear R9 U8 B8
            have J0 := Lib.hid (h1)
            clear hs h1
            go_wp2_with fail
            go_quiet (fail)
            have hs := below_drewN (Below.refl w10.heap.size w10) nq
            have R11 := Lib.hid (R10.out.below hs)
            have U10 := Lib.hid (U9.out.below hs)
            have B10 := Lib.hid (B9.out.trans (hs.mono B9.out.size))
            have J1 := Lib.hid (J0.out.below hs)
            clear R10 U9 B9 J0
            clear hs
            go_wp2_with fail
            refine (own_any (.slice (some ⟨b, off, none⟩) 0 cap) [] _ R11.out K.out).mono ?_
            rintro ev w11 ⟨o, rfl, ho, hs1⟩
            have HO := Lib.hid ho
            have H1 := Lib.hid hs1
            have HU := Lib.hid (U10.out.below hs1)
            clear ho hs1
            go_wp2_with (at_builtin; go_must (refine wpList_appG (by rfl) (.tmp 173) (.tmp 174) rfl _ rfl rfl HO.out HU.out (by have := K.out; have := K2.out; omega) H1.out.size ?_))
            intro p w12 hp hg
            have hs := app_below H1.out HO.out (Nat.le_refl _) H1.out.size hg
            have HP := Lib.hid (hp.rows (R11.out.small.append U10.out.small))
            have R12 := Lib.hid (R11.out.below hs)
            have U11 := Lib.hid (U10.out.below hs)
            have B11 := Lib.hid (B10.out.trans (hs.mono B10.out.size))
            have J2 := Lib.hid (J1.out.below hs)
            clear R11 U10 B10 J1
            clear hs hp hg HO H1 HU
            have P0 := Lib.hid (HP.out)
            clear HP
            go_wp2_with fail
            refine (refSame_any j p _ _ _ J2.out P0.out).mono ?_
            rintro ev w13 ⟨rfl, hs⟩
            rw [show sameR ([] ++ ss) ss = true from sameR_self ss]
            have R13 := Lib.hid (R12.out.below hs)
            have U12 := Lib.hid (U11.out.below hs)
            have B12 := Lib.hid (B11.out.trans (hs.mono B11.out.size))
            have J3 := Lib.hid (J2.out.below hs)
            have P1 := Lib.hid (P0.out.below hs)
            clear R12 U11 B11 J2 P0
            clear hs
            go_wp2_with fail
            refine (awakeR L.out.1 _).mono ?_
            rintro ev w14 ⟨rfl, hs⟩
            have R14 := Lib.hid (R13.out.below hs)
            have U13 := Lib.hid (U12.out.below hs)
            have B13 := Lib.hid (B12.out.trans (hs.mono B12.out.size))
            have J4 := Lib.hid (J3.out.below hs)
            have P2 := Lib.hid (P1.out.below hs)
            clear R13 U12 B12 J3 P1
            clear hs
            go_wp2
            go_ret
            exact ⟨rfl, B13.out⟩
          · obtain ⟨p, hp⟩ : ∃ p, rs.length = p + 1 := ⟨rs.length - 1, by omega⟩
            have x0 := (R8.out.cellsAt p (by omega)).1
            have hpl : (p : Int) + 1 ≤ 1000 := by have := K.out; omega
            rw [hp]
            have R9 := Lib.hid (hp ▸ R8.out)
            by_cases h3 : ss.length = 0
            · have he := List.eq_nil_of_length_eq_zero h3
              subst he
              simp only [List.length_nil]
              have CL := Lib.hid (clash_nil rs)
              clear x0 hp h3
              have U9 := Lib.hid ((show RowsV _ (.slice ua 0 uc) [] from U8.out))
              go_wp2_with fail
              refine (L.out.1.join (.slice (some ⟨b, off, none⟩) (p + 1) cap) (.slice ua 0 uc) rs [] _ R9.out U9.out K.out K2.out CL.out).mono ?_
              rintro ev w10 ⟨j, rfl, h1, hs⟩
              have R10 := Lib.hid (R9.out.below hs)
              have U10 := Lib.hid (U9.out.below hs)
              have B9 := Lib.hid (B8.out.trans (hs.mono B8.out.size))
              clear R9 U9 B8
              have J0 := Lib.hid (h1)
              clear hs h1
              go_wp2_with fail
              go_quiet (fail)
              have hs := below_drewN (Below.refl w10.heap.size w10) nq
              have R11 := Lib.hid (R10.out.below hs)
              have U11 := Lib.hid (U10.out.below hs)
              have B10 := Lib.hid (B9.out.trans (hs.mono B9.out.size))
              have J1 := Lib.hid (J0.out.below hs)
              clear R10 U10 B9 J0
              clear hs
              go_wp2_with fail
              refine (own_any (.slice (some ⟨b, off, none⟩) (p + 1) cap) rs _ R11.out K.out).mono ?_
              rintro ev w11 ⟨o, rfl, ho, hs1⟩
              have HO := Lib.hid ho
              have H1 := Lib.hid hs1
              have HU := Lib.hid (U11.out.below hs1)
              clear ho hs1
              go_wp2_with (at_builtin; go_must (refine wpList_appG (by rfl) (.tmp 173) (.tmp 174) rfl _ rfl rfl HO.out HU.out (by have := K.out; have := K2.out; omega) H1.out.size ?_))
              intro p w12 hp hg
              have hs := app_below H1.out HO.out (Nat.le_refl _) H1.out.size hg
              have HP := Lib.hid (hp.rows R11.out.small)
              have R12 := Lib.hid (R11.out.below hs)
              have U12 := Lib.hid (U11.out.below hs)
              have B11 := Lib.hid (B10.out.trans (hs.mono B10.out.size))
              have J2 := Lib.hid (J1.out.below hs)
              clear R11 U11 B10 J1
              clear hs hp hg HO H1 HU
              have P0 := Lib.hid (HP.out)
              clear HP
              go_wp2_with fail
              refine (refSame_any j p _ _ _ J2.out P0.out).mono ?_
              rintro ev w13 ⟨rfl, hs⟩
              rw [show sameR (rs ++ []) rs = true by rw [List.append_nil]; exact sameR_self rs]
              have R13 := Lib.hid (R12.out.below hs)
              have U13 := Lib.hid (U12.out.below hs)
              have B12 := Lib.hid (B11.out.trans (hs.mono B11.out.size))
              have J3 := Lib.hid (J2.out.below hs)
              have P1 := Lib.hid (P0.out.below hs)
              clear R12 U12 B11 J2 P0
              clear hs
              go_wp2_with fail
              refine (awakeR L.out.1 _).mono ?_
              rintro ev w14 ⟨rfl, hs⟩
              have R14 := Lib.hid (R13.out.below hs)
              have U14 := Lib.hid (U13.out.below hs)
              have B13 := Lib.hid (B12.out.trans (hs.mono B12.out.size))
              have J4 := Lib.hid (J3.out.below hs)
              have P2 := Lib.hid (P1.out.below hs)
              clear R13 U13 B12 J3 P1
              clear hs
              go_wp2
              go_ret
              exact ⟨rfl, B13.out⟩
            · obtain ⟨d, dff, hua⟩ := U8.out.addr h3
              subst hua
              have y0 := (U8.out.cellsAt 0 (by omega)).1
              simp only [Nat.zero_mul, Nat.add_zero] at y0
              have CL := Lib.hid (clash_last hp (ss := ss) (fun e => h3 (by rw [e]; rfl)))
              obtain ⟨q, hq⟩ : ∃ q, ss.length = q + 1 := ⟨ss.length - 1, by omega⟩
              have hql : (q : Int) + 1 ≤ 1000 := by have := K2.out; omega
              rw [hq]
              have U9 := Lib.hid (hq ▸ U8.out)
              have n3 : (0 : Int) ≤ (p : Int) := by omega
              have n4 : (p : Int) < (p : Int) + 1 := by omega
              have n5 : IntKind.i64.wrap (p : Int) = (p : Int) := Go.IntWalk.i64_in _ (by omega)
              have n6 : (0 : Int) < (q : Int) + 1 := by omega
              generalize (rs.getD p r0).1 = x at *
              generalize (ss.getD 0 r0).1 = y at *
              have F0 := Lib.hid (x0)
              have G0 := Lib.hid (y0)
              clear x0 y0 hp h3 hq
              obtain ⟨cc, hcz⟩ : ∃ cc, cmp x.data.toList y.data.toList = cc := ⟨_, rfl⟩
              have Z := Lib.hid hcz
              cases hb : bef x.data.toList y.data.toList with
              | false =>
                have hn := cmp_geC hb
                rw [hcz] at hn
                have CK := Lib.hid (CL.out.trans (congrArg (fun t => !t) hb))
                clear hb hcz CL
                go_wp2_with fail
                refine (L.out.1.joinNo (.slice (some ⟨b, off, none⟩) (p + 1) cap) (.slice (some ⟨d, dff, none⟩) (q + 1) uc) rs ss _ R9.out U9.out K.out K2.out CK.out).mono ?_
                rintro ev w10 ⟨j, rfl, h1, hs⟩
                have R10 := Lib.hid (R9.out.below hs)
                have U10 := Lib.hid (U9.out.below hs)
                have B9 := Lib.hid (B8.out.trans (hs.mono B8.out.size))
                have F1 := Lib.hid (cell_step F0.out hs)
                have G1 := Lib.hid (cell_step G0.out hs)
                clear R9 U9 B8 F0 G0
                have J0 := Lib.hid (h1)
                clear hs h1
                obtain ⟨ja, jc, hj, -, -⟩ := J0.out.lenform
                subst hj
                simp only [List.length_nil]
                go_wp2_with fail
                have R11 := Lib.hid (R10.out.below (Below.refl _ _).drew)
                have U11 := Lib.hid (U10.out.below (Below.refl _ _).drew)
                have B10 := Lib.hid (B9.out.trans ((Below.refl _ _).drew.mono B9.out.size))
                have F2 := Lib.hid (cell_step F1.out (Below.refl _ _).drew)
                have G2 := Lib.hid (cell_step G1.out (Below.refl _ _).drew)
                have J1 := Lib.hid (J0.out.below (Below.refl _ _).drew)
                clear R10 U10 B9 F1 G1 J0
                have zz0 := F2.out
                have zz1 := G2.out
                go_region_held3 (fun w' => w'.cell? ⟨b, off + p * 2, none⟩ = some (.string x) ∧ w'.cell? ⟨d, dff, none⟩ = some (.string y))
                  (first | exact ⟨by assumption, by assumption⟩ | go_keep)
                  (first
                    | (go_at_call 31; (with_reducible refine (stillC (compare_any x y _)).mono ?_); rintro e w11 ⟨rfl, hs⟩; rw [Z.out]; have R12 := Lib.hid (R11.out.below hs); have U12 := Lib.hid (U11.out.below hs); have B11 := Lib.hid (B10.out.trans (hs.mono B10.out.size)); have F3 := Lib.hid (cell_step F2.out hs); have G3 := Lib.hid (cell_step G2.out hs); have J2 := Lib.hid (J1.out.below hs); clear R11 U11 B10 F2 G2 J1; have zz0_0 := F3.out; have zz1_0 := G3.out; clear hs))
                go_wp2_with fail
                refine (Is_code 2 2 _).mono ?_
                rintro ev w12 ⟨rfl, rfl⟩
                have e1 : ((2 : Int) == 2) = true := rfl
                rw [e1]
                clear e1
                go_wp2_with fail
                refine (awakeR L.out.1 _).mono ?_
                rintro ev w13 ⟨rfl, hs⟩
                have R13 := Lib.hid (R12.out.below hs)
                have U13 := Lib.hid (U12.out.below hs)
                have B12 := Lib.hid (B11.out.trans (hs.mono B11.out.size))
                have F4 := Lib.hid (cell_step F3.out hs)
                have G4 := Lib.hid (cell_step G3.out hs)
                have J3 := Lib.hid (J2.out.below hs)
                clear R12 U12 B11 F3 G3 J2
                clear hs
                go_wp2
                go_ret
                exact ⟨rfl, B12.out⟩
              | true =>
                have hn := cmp_ltC hb
                rw [hcz] at hn
                have CK := Lib.hid (CL.out.trans (congrArg (fun t => !t) hb))
                clear hb hcz CL
                go_wp2_with fail
                refine (L.out.1.join (.slice (some ⟨b, off, none⟩) (p + 1) cap) (.slice (some ⟨d, dff, none⟩) (q + 1) uc) rs ss _ R9.out U9.out K.out K2.out CK.out).mono ?_
                rintro ev w10 ⟨j, rfl, h1, hs⟩
                have R10 := Lib.hid (R9.out.below hs)
                have U10 := Lib.hid (U9.out.below hs)
                have B9 := Lib.hid (B8.out.trans (hs.mono B8.out.size))
                have F1 := Lib.hid (cell_step F0.out hs)
                have G1 := Lib.hid (cell_step G0.out hs)
                clear R9 U9 B8 F0 G0
                have J0 := Lib.hid (h1)
                clear hs h1
                go_wp2_with fail
                have R11 := Lib.hid (R10.out.below (Below.refl _ _).drew)
                have U11 := Lib.hid (U10.out.below (Below.refl _ _).drew)
                have B10 := Lib.hid (B9.out.trans ((Below.refl _ _).drew.mono B9.out.size))
                have F2 := Lib.hid (cell_step F1.out (Below.refl _ _).drew)
                have G2 := Lib.hid (cell_step G1.out (Below.refl _ _).drew)
                have J1 := Lib.hid (J0.out.below (Below.refl _ _).drew)
                clear R10 U10 B9 F1 G1 J0
                have zz0 := F2.out
                have zz1 := G2.out
                go_region_held3 (fun w' => w'.cell? ⟨b, off + p * 2, none⟩ = some (.string x) ∧ w'.cell? ⟨d, dff, none⟩ = some (.string y))
                  (first | exact ⟨by assumption, by assumption⟩ | go_keep)
                  (first
                    | (go_at_call 31; (with_reducible refine (stillC (compare_any x y _)).mono ?_); rintro e w11 ⟨rfl, hs⟩; rw [Z.out]; have R12 := Lib.hid (R11.out.below hs); have U12 := Lib.hid (U11.out.below hs); have B11 := Lib.hid (B10.out.trans (hs.mono B10.out.size)); have F3 := Lib.hid (cell_step F2.out hs); have G3 := Lib.hid (cell_step G2.out hs); have J2 := Lib.hid (J1.out.below hs); clear R11 U11 B10 F2 G2 J1; have zz0_0 := F3.out; have zz1_0 := G3.out; clear hs))
                go_wp2_with fail
                refine (own_any (.slice (some ⟨b, off, none⟩) (p + 1) cap) rs _ R12.out K.out).mono ?_
                rintro ev w12 ⟨o, rfl, ho, hs1⟩
                have HO := Lib.hid ho
                have H1 := Lib.hid hs1
                have HU := Lib.hid (U12.out.below hs1)
                clear ho hs1
                go_wp2_with (at_builtin; go_must (refine wpList_appG (by rfl) (.tmp 173) (.tmp 174) rfl _ rfl rfl HO.out HU.out (by have := K.out; have := K2.out; omega) H1.out.size ?_))
                intro p w13 hp hg
                have hs := app_below H1.out HO.out (Nat.le_refl _) H1.out.size hg
                have HP := Lib.hid (hp.rows (R12.out.small.append U12.out.small))
                have R13 := Lib.hid (R12.out.below hs)
                have U13 := Lib.hid (U12.out.below hs)
                have B12 := Lib.hid (B11.out.trans (hs.mono B11.out.size))
                have F4 := Lib.hid (cell_step F3.out hs)
                have G4 := Lib.hid (cell_step G3.out hs)
                have J3 := Lib.hid (J2.out.below hs)
                clear R12 U12 B11 F3 G3 J2
                clear hs hp hg HO H1 HU
                have P0 := Lib.hid (HP.out)
                clear HP
                go_wp2_with fail
                refine (refSame_any j p _ _ _ J3.out P0.out).mono ?_
                rintro ev w14 ⟨rfl, hs⟩
                rw [sameR_self]
                have R14 := Lib.hid (R13.out.below hs)
                have U14 := Lib.hid (U13.out.below hs)
                have B13 := Lib.hid (B12.out.trans (hs.mono B12.out.size))
                have F5 := Lib.hid (cell_step F4.out hs)
                have G5 := Lib.hid (cell_step G4.out hs)
                have J4 := Lib.hid (J3.out.below hs)
                have P1 := Lib.hid (P0.out.below hs)
                clear R13 U13 B12 F4 G4 J3 P0
                clear hs
                go_wp2_with fail
                refine (awakeR L.out.1 _).mono ?_
                rintro ev w15 ⟨rfl, hs⟩
                have R15 := Lib.hid (R14.out.below hs)
                have U15 := Lib.hid (U14.out.below hs)
                have B14 := Lib.hid (B13.out.trans (hs.mono B13.out.size))
                have F6 := Lib.hid (cell_step F5.out hs)
                have G6 := Lib.hid (cell_step G5.out hs)
                have J5 := Lib.hid (J4.out.below hs)
                have P2 := Lib.hid (P1.out.below hs)
                clear R14 U14 B13 F5 G5 J4 P1
                clear hs
                go_wp2
                go_ret
                exact ⟨rfl, B14.out⟩
        · have h4 : ¬ ((rs.length : Int) < 2) := by omega
          have h5 : 2 ≤ rs.length := by omega
          have h0 : ¬ rs.length = 0 := by omega
          cases hh : halfB rs with
          | false =>
            go_wp2_with fail
            refine (L.out.1.halveNo (.slice (some ⟨b, off, none⟩) rs.length cap) rs _ R6.out K.out hh).mono ?_
            rintro ev w7 ⟨x, y, rfl, h1, h2', hs⟩
            rw [if_neg h2]
            have R7 := Lib.hid (R6.out.below hs)
            have U7 := Lib.hid (U6.out.below hs)
            have B7 := Lib.hid (B6.out.trans (hs.mono B6.out.size))
            clear R6 U6 B6
            have X0 := Lib.hid (h1)
            have Y0 := Lib.hid (h2')
            clear hs h1
            obtain ⟨xa, xc, hx, -, -⟩ := X0.out.lenform
            obtain ⟨ya, yc, hy, -, -⟩ := Y0.out.lenform
            subst hx hy
            simp only [List.length_nil]
            clear X0 Y0
            go_wp2_with fail
            refine (refHalve_many (.slice (some ⟨b, off, none⟩) rs.length cap) rs _ R7.out h5).mono ?_
            rintro ev w8 ⟨(⟨hh2, -⟩ | ⟨-, rfl⟩), hs⟩
            · rw [hh] at hh2; cases hh2
            have R8 := Lib.hid (R7.out.below hs)
            have U8 := Lib.hid (U7.out.below hs)
            have B8 := Lib.hid (B7.out.trans (hs.mono B7.out.size))
            clear R7 U7 B7
            clear hs hh
            obtain ⟨p, hp⟩ : ∃ p, rs.length = p + 1 := ⟨rs.length - 1, by omega⟩
            have x0 := (R8.out.cellsAt p (by omega)).1
            have hpl : (p : Int) + 1 ≤ 1000 := by have := K.out; omega
            rw [hp]
            have h4p : ¬ ((p : Int) + 1 < 2) := by omega
            have h4q : (1 : Int) ≤ (p : Int) := by omega
            clear h4 h5 h2
            have R9 := Lib.hid (hp ▸ R8.out)
            by_cases h3 : ss.length = 0
            · have he := List.eq_nil_of_length_eq_zero h3
              subst he
              simp only [List.length_nil]
              have CL := Lib.hid (clash_nil rs)
              clear x0 hp h3
              have U9 := Lib.hid ((show RowsV _ (.slice ua 0 uc) [] from U8.out))
              go_wp2_with fail
              refine (L.out.1.join (.slice (some ⟨b, off, none⟩) (p + 1) cap) (.slice ua 0 uc) rs [] _ R9.out U9.out K.out K2.out CL.out).mono ?_
              rintro ev w9 ⟨j, rfl, h1, hs⟩
              have R10 := Lib.hid (R9.out.below hs)
              have U10 := Lib.hid (U9.out.below hs)
              have B9 := Lib.hid (B8.out.trans (hs.mono B8.out.size))
              clear R9 U9 B8
              have J0 := Lib.hid (h1)
              clear hs h1
              go_wp2_with fail
              go_quiet (fail)
              have hs := below_drewN (Below.refl w9.heap.size w9) nq
              have R11 := Lib.hid (R10.out.below hs)
              have U11 := Lib.hid (U10.out.below hs)
              have B10 := Lib.hid (B9.out.trans (hs.mono B9.out.size))
              have J1 := Lib.hid (J0.out.below hs)
              clear R10 U10 B9 J0
              clear hs
              go_wp2_with fail
              refine (own_any (.slice (some ⟨b, off, none⟩) (p + 1) cap) rs _ R11.out K.out).mono ?_
              rintro ev w10 ⟨o, rfl, ho, hs1⟩
              have HO := Lib.hid ho
              have H1 := Lib.hid hs1
              have HU := Lib.hid (U11.out.below hs1)
              clear ho hs1
              go_wp2_with (at_builtin; go_must (refine wpList_appG (by rfl) (.tmp 173) (.tmp 174) rfl _ rfl rfl HO.out HU.out (by have := K.out; have := K2.out; omega) H1.out.size ?_))
              intro p w11 hp hg
              have hs := app_below H1.out HO.out (Nat.le_refl _) H1.out.size hg
              have HP := Lib.hid (hp.rows R11.out.small)
              have R12 := Lib.hid (R11.out.below hs)
              have U12 := Lib.hid (U11.out.below hs)
              have B11 := Lib.hid (B10.out.trans (hs.mono B10.out.size))
              have J2 := Lib.hid (J1.out.below hs)
              clear R11 U11 B10 J1
              clear hs hp hg HO H1 HU
              have P0 := Lib.hid (HP.out)
              clear HP
              go_wp2_with fail
              refine (refSame_any j p _ _ _ J2.out P0.out).mono ?_
              rintro ev w12 ⟨rfl, hs⟩
              rw [show sameR (rs ++ []) rs = true by rw [List.append_nil]; exact sameR_self rs]
              have R13 := Lib.hid (R12.out.below hs)
              have U13 := Lib.hid (U12.out.below hs)
              have B12 := Lib.hid (B11.out.trans (hs.mono B11.out.size))
              have J3 := Lib.hid (J2.out.below hs)
              have P1 := Lib.hid (P0.out.below hs)
              clear R12 U12 B11 J2 P0
              clear hs
              go_wp2_with fail
              refine (awakeR L.out.1 _).mono ?_
              rintro ev w13 ⟨rfl, hs⟩
              have R14 := Lib.hid (R13.out.below hs)
              have U14 := Lib.hid (U13.out.below hs)
              have B13 := Lib.hid (B12.out.trans (hs.mono B12.out.size))
              have J4 := Lib.hid (J3.out.below hs)
              have P2 := Lib.hid (P1.out.below hs)
              clear R13 U13 B12 J3 P1
              clear hs
              go_wp2
              go_ret
              exact ⟨rfl, B13.out⟩
            · obtain ⟨d, dff, hua⟩ := U8.out.addr h3
              subst hua
              have y0 := (U8.out.cellsAt 0 (by omega)).1
              simp only [Nat.zero_mul, Nat.add_zero] at y0
              have CL := Lib.hid (clash_last hp (ss := ss) (fun e => h3 (by rw [e]; rfl)))
              obtain ⟨q, hq⟩ : ∃ q, ss.length = q + 1 := ⟨ss.length - 1, by omega⟩
              have hql : (q : Int) + 1 ≤ 1000 := by have := K2.out; omega
              rw [hq]
              have U9 := Lib.hid (hq ▸ U8.out)
              have n3 : (0 : Int) ≤ (p : Int) := by omega
              have n4 : (p : Int) < (p : Int) + 1 := by omega
              have n5 : IntKind.i64.wrap (p : Int) = (p : Int) := Go.IntWalk.i64_in _ (by omega)
              have n6 : (0 : Int) < (q : Int) + 1 := by omega
              generalize (rs.getD p r0).1 = x at *
              generalize (ss.getD 0 r0).1 = y at *
              have F0 := Lib.hid (x0)
              have G0 := Lib.hid (y0)
              clear x0 y0 hp h3 hq
              obtain ⟨cc, hcz⟩ : ∃ cc, cmp x.data.toList y.data.toList = cc := ⟨_, rfl⟩
              have Z := Lib.hid hcz
              cases hb : bef x.data.toList y.data.toList with
              | false =>
                have hn := cmp_geC hb
                rw [hcz] at hn
                have CK := Lib.hid (CL.out.trans (congrArg (fun t => !t) hb))
                clear hb hcz CL
                go_wp2_with fail
                refine (L.out.1.joinNo (.slice (some ⟨b, off, none⟩) (p + 1) cap) (.slice (some ⟨d, dff, none⟩) (q + 1) uc) rs ss _ R9.out U9.out K.out K2.out CK.out).mono ?_
                rintro ev w9 ⟨j, rfl, h1, hs⟩
                have R10 := Lib.hid (R9.out.below hs)
                have U10 := Lib.hid (U9.out.below hs)
                have B9 := Lib.hid (B8.out.trans (hs.mono B8.out.size))
                have F1 := Lib.hid (cell_step F0.out hs)
                have G1 := Lib.hid (cell_step G0.out hs)
                clear R9 U9 B8 F0 G0
                have J0 := Lib.hid (h1)
                clear hs h1
                obtain ⟨ja, jc, hj, -, -⟩ := J0.out.lenform
                subst hj
                simp only [List.length_nil]
                go_wp2_with fail
                have R11 := Lib.hid (R10.out.below (Below.refl _ _).drew)
                have U11 := Lib.hid (U10.out.below (Below.refl _ _).drew)
                have B10 := Lib.hid (B9.out.trans ((Below.refl _ _).drew.mono B9.out.size))
                have F2 := Lib.hid (cell_step F1.out (Below.refl _ _).drew)
                have G2 := Lib.hid (cell_step G1.out (Below.refl _ _).drew)
                have J1 := Lib.hid (J0.out.below (Below.refl _ _).drew)
                clear R10 U10 B9 F1 G1 J0
                have zz0 := F2.out
                have zz1 := G2.out
                go_region_held3 (fun w' => w'.cell? ⟨b, off + p * 2, none⟩ = some (.string x) ∧ w'.cell? ⟨d, dff, none⟩ = some (.string y))
                  (first | exact ⟨by assumption, by assumption⟩ | go_keep)
                  (first
                    | (go_at_call 31; (with_reducible refine (stillC (compare_any x y _)).mono ?_); rintro e w10 ⟨rfl, hs⟩; rw [Z.out]; have R12 := Lib.hid (R11.out.below hs); have U12 := Lib.hid (U11.out.below hs); have B11 := Lib.hid (B10.out.trans (hs.mono B10.out.size)); have F3 := Lib.hid (cell_step F2.out hs); have G3 := Lib.hid (cell_step G2.out hs); have J2 := Lib.hid (J1.out.below hs); clear R11 U11 B10 F2 G2 J1; have zz0_0 := F3.out; have zz1_0 := G3.out; clear hs))
                go_wp2_with fail
                refine (Is_code 2 2 _).mono ?_
                rintro ev w11 ⟨rfl, rfl⟩
                have e1 : ((2 : Int) == 2) = true := rfl
                rw [e1]
                clear e1
                go_wp2_with fail
                refine (awakeR L.out.1 _).mono ?_
                rintro ev w12 ⟨rfl, hs⟩
                have R13 := Lib.hid (R12.out.below hs)
                have U13 := Lib.hid (U12.out.below hs)
                have B12 := Lib.hid (B11.out.trans (hs.mono B11.out.size))
                have F4 := Lib.hid (cell_step F3.out hs)
                have G4 := Lib.hid (cell_step G3.out hs)
                have J3 := Lib.hid (J2.out.below hs)
                clear R12 U12 B11 F3 G3 J2
                clear hs
                go_wp2
                go_ret
                exact ⟨rfl, B12.out⟩
              | true =>
                have hn := cmp_ltC hb
                rw [hcz] at hn
                have CK := Lib.hid (CL.out.trans (congrArg (fun t => !t) hb))
                clear hb hcz CL
                go_wp2_with fail
                refine (L.out.1.join (.slice (some ⟨b, off, none⟩) (p + 1) cap) (.slice (some ⟨d, dff, none⟩) (q + 1) uc) rs ss _ R9.out U9.out K.out K2.out CK.out).mono ?_
                rintro ev w9 ⟨j, rfl, h1, hs⟩
                have R10 := Lib.hid (R9.out.below hs)
                have U10 := Lib.hid (U9.out.below hs)
                have B9 := Lib.hid (B8.out.trans (hs.mono B8.out.size))
                have F1 := Lib.hid (cell_step F0.out hs)
                have G1 := Lib.hid (cell_step G0.out hs)
                clear R9 U9 B8 F0 G0
                have J0 := Lib.hid (h1)
                clear hs h1
                go_wp2_with fail
                have R11 := Lib.hid (R10.out.below (Below.refl _ _).drew)
                have U11 := Lib.hid (U10.out.below (Below.refl _ _).drew)
                have B10 := Lib.hid (B9.out.trans ((Below.refl _ _).drew.mono B9.out.size))
                have F2 := Lib.hid (cell_step F1.out (Below.refl _ _).drew)
                have G2 := Lib.hid (cell_step G1.out (Below.refl _ _).drew)
                have J1 := Lib.hid (J0.out.below (Below.refl _ _).drew)
                clear R10 U10 B9 F1 G1 J0
                have zz0 := F2.out
                have zz1 := G2.out
                go_region_held3 (fun w' => w'.cell? ⟨b, off + p * 2, none⟩ = some (.string x) ∧ w'.cell? ⟨d, dff, none⟩ = some (.string y))
                  (first | exact ⟨by assumption, by assumption⟩ | go_keep)
                  (first
                    | (go_at_call 31; (with_reducible refine (stillC (compare_any x y _)).mono ?_); rintro e w10 ⟨rfl, hs⟩; rw [Z.out]; have R12 := Lib.hid (R11.out.below hs); have U12 := Lib.hid (U11.out.below hs); have B11 := Lib.hid (B10.out.trans (hs.mono B10.out.size)); have F3 := Lib.hid (cell_step F2.out hs); have G3 := Lib.hid (cell_step G2.out hs); have J2 := Lib.hid (J1.out.below hs); clear R11 U11 B10 F2 G2 J1; have zz0_0 := F3.out; have zz1_0 := G3.out; clear hs))
                go_wp2_with fail
                refine (own_any (.slice (some ⟨b, off, none⟩) (p + 1) cap) rs _ R12.out K.out).mono ?_
                rintro ev w11 ⟨o, rfl, ho, hs1⟩
                have HO := Lib.hid ho
                have H1 := Lib.hid hs1
                have HU := Lib.hid (U12.out.below hs1)
                clear ho hs1
                go_wp2_with (at_builtin; go_must (refine wpList_appG (by rfl) (.tmp 173) (.tmp 174) rfl _ rfl rfl HO.out HU.out (by have := K.out; have := K2.out; omega) H1.out.size ?_))
                intro p w12 hp hg
                have hs := app_below H1.out HO.out (Nat.le_refl _) H1.out.size hg
                have HP := Lib.hid (hp.rows (R12.out.small.append U12.out.small))
                have R13 := Lib.hid (R12.out.below hs)
                have U13 := Lib.hid (U12.out.below hs)
                have B12 := Lib.hid (B11.out.trans (hs.mono B11.out.size))
                have F4 := Lib.hid (cell_step F3.out hs)
                have G4 := Lib.hid (cell_step G3.out hs)
                have J3 := Lib.hid (J2.out.below hs)
                clear R12 U12 B11 F3 G3 J2
                clear hs hp hg HO H1 HU
                have P0 := Lib.hid (HP.out)
                clear HP
                go_wp2_with fail
                refine (refSame_any j p _ _ _ J3.out P0.out).mono ?_
                rintro ev w13 ⟨rfl, hs⟩
                rw [sameR_self]
                have R14 := Lib.hid (R13.out.below hs)
                have U14 := Lib.hid (U13.out.below hs)
                have B13 := Lib.hid (B12.out.trans (hs.mono B12.out.size))
                have F5 := Lib.hid (cell_step F4.out hs)
                have G5 := Lib.hid (cell_step G4.out hs)
                have J4 := Lib.hid (J3.out.below hs)
                have P1 := Lib.hid (P0.out.below hs)
                clear R13 U13 B12 F4 G4 J3 P0
                clear hs
                go_wp2_with fail
                refine (awakeR L.out.1 _).mono ?_
                rintro ev w14 ⟨rfl, hs⟩
                have R15 := Lib.hid (R14.out.below hs)
                have U15 := Lib.hid (U14.out.below hs)
                have B14 := Lib.hid (B13.out.trans (hs.mono B13.out.size))
                have F6 := Lib.hid (cell_step F5.out hs)
                have G6 := Lib.hid (cell_step G5.out hs)
                have J5 := Lib.hid (J4.out.below hs)
                have P2 := Lib.hid (P1.out.below hs)
                clear R14 U14 B13 F5 G5 J4 P1
                clear hs
                go_wp2
                go_ret
                exact ⟨rfl, B14.out⟩
          | true =>
            go_wp2_with fail
            refine (L.out.1.halve (.slice (some ⟨b, off, none⟩) rs.length cap) rs _ R6.out K.out hh).mono ?_
            rintro ev w7 ⟨x, y, rfl, h1, h2', hs⟩
            have R7 := Lib.hid (R6.out.below hs)
            have U7 := Lib.hid (U6.out.below hs)
            have B7 := Lib.hid (B6.out.trans (hs.mono B6.out.size))
            clear R6 U6 B6
            have X0 := Lib.hid (h1)
            have Y0 := Lib.hid (h2')
            clear hs h1
            go_wp2_with fail
            refine (refHalve_many (.slice (some ⟨b, off, none⟩) rs.length cap) rs _ R7.out h5).mono ?_
            rintro ev w8 ⟨(⟨-, x2, y2, rfl, h1, h2'⟩ | ⟨hh2, -⟩), hs⟩
            rotate_left
            · rw [hh] at hh2; cases hh2
            have R8 := Lib.hid (R7.out.below hs)
            have U8 := Lib.hid (U7.out.below hs)
            have B8 := Lib.hid (B7.out.trans (hs.mono B7.out.size))
            have X1 := Lib.hid (X0.out.below hs)
            have Y1 := Lib.hid (Y0.out.below hs)
            clear R7 U7 B7 X0 Y0
            have XX0 := Lib.hid (h1)
            have YY0 := Lib.hid (h2')
            clear hs hh h1 h2'
            generalize halfK rs = hkk at *
            have e1 : (hkk.toList != hkk.toList) = false := by simp
            have e2 : (hkk.toList == hkk.toList) = true := by simp
            go_wp2_with fail
            refine (refSame_any x x2 _ _ _ X1.out XX0.out).mono ?_
            rintro ev w9 ⟨rfl, hs⟩
            rw [sameR_self]
            have R9 := Lib.hid (R8.out.below hs)
            have U9 := Lib.hid (U8.out.below hs)
            have B9 := Lib.hid (B8.out.trans (hs.mono B8.out.size))
            have X2 := Lib.hid (X1.out.below hs)
            have Y2 := Lib.hid (Y1.out.below hs)
            have XX1 := Lib.hid (XX0.out.below hs)
            have YY1 := Lib.hid (YY0.out.below hs)
            clear R8 U8 B8 X1 Y1 XX0 YY0
            clear hs
            go_wp2_with fail
            refine (refSame_any y y2 _ _ _ Y2.out YY1.out).mono ?_
            rintro ev w10 ⟨rfl, hs⟩
            rw [sameR_self]
            have R10 := Lib.hid (R9.out.below hs)
            have U10 := Lib.hid (U9.out.below hs)
            have B10 := Lib.hid (B9.out.trans (hs.mono B9.out.size))
            have X3 := Lib.hid (X2.out.below hs)
            have Y3 := Lib.hid (Y2.out.below hs)
            have XX2 := Lib.hid (XX1.out.below hs)
            have YY2 := Lib.hid (YY1.out.below hs)
            clear R9 U9 B9 X2 Y2 XX1 YY1
            clear hs
            clear X3
            clear Y3
            clear XX2
            clear YY2
            clear e1 e2
            obtain ⟨p, hp⟩ : ∃ p, rs.length = p + 1 := ⟨rs.length - 1, by omega⟩
            have x0 := (R10.out.cellsAt p (by omega)).1
            have hpl : (p : Int) + 1 ≤ 1000 := by have := K.out; omega
            rw [hp]
            have h4p : ¬ ((p : Int) + 1 < 2) := by omega
            have h4q : (1 : Int) ≤ (p : Int) := by omega
            clear h4 h5 h2
            have R11 := Lib.hid (hp ▸ R10.out)
            by_cases h3 : ss.length = 0
            · have he := List.eq_nil_of_length_eq_zero h3
              subst he
              simp only [List.length_nil]
              have CL := Lib.hid (clash_nil rs)
              clear x0 hp h3
              have U11 := Lib.hid ((show RowsV _ (.slice ua 0 uc) [] from U10.out))
              go_wp2_with fail
              refine (L.out.1.join (.slice (some ⟨b, off, none⟩) (p + 1) cap) (.slice ua 0 uc) rs [] _ R11.out U11.out K.out K2.out CL.out).mono ?_
              rintro ev w11 ⟨j, rfl, h1, hs⟩
              have R12 := Lib.hid (R11.out.below hs)
              have U12 := Lib.hid (U11.out.below hs)
              have B11 := Lib.hid (B10.out.trans (hs.mono B10.out.size))
              clear R11 U11 B10
              have J0 := Lib.hid (h1)
              clear hs h1
              go_wp2_with fail
              go_quiet (fail)
              have hs := below_drewN (Below.refl w11.heap.size w11) nq
              have R13 := Lib.hid (R12.out.below hs)
              have U13 := Lib.hid (U12.out.below hs)
              have B12 := Lib.hid (B11.out.trans (hs.mono B11.out.size))
              have J1 := Lib.hid (J0.out.below hs)
              clear R12 U12 B11 J0
              clear hs
              go_wp2_with fail
              refine (own_any (.slice (some ⟨b, off, none⟩) (p + 1) cap) rs _ R13.out K.out).mono ?_
              rintro ev w12 ⟨o, rfl, ho, hs1⟩
              have HO := Lib.hid ho
              have H1 := Lib.hid hs1
              have HU := Lib.hid (U13.out.below hs1)
              clear ho hs1
              go_wp2_with (at_builtin; go_must (refine wpList_appG (by rfl) (.tmp 173) (.tmp 174) rfl _ rfl rfl HO.out HU.out (by have := K.out; have := K2.out; omega) H1.out.size ?_))
              intro p w13 hp hg
              have hs := app_below H1.out HO.out (Nat.le_refl _) H1.out.size hg
              have HP := Lib.hid (hp.rows R13.out.small)
              have R14 := Lib.hid (R13.out.below hs)
              have U14 := Lib.hid (U13.out.below hs)
              have B13 := Lib.hid (B12.out.trans (hs.mono B12.out.size))
              have J2 := Lib.hid (J1.out.below hs)
              clear R13 U13 B12 J1
              clear hs hp hg HO H1 HU
              have P0 := Lib.hid (HP.out)
              clear HP
              go_wp2_with fail
              refine (refSame_any j p _ _ _ J2.out P0.out).mono ?_
              rintro ev w14 ⟨rfl, hs⟩
              rw [show sameR (rs ++ []) rs = true by rw [List.append_nil]; exact sameR_self rs]
              have R15 := Lib.hid (R14.out.below hs)
              have U15 := Lib.hid (U14.out.below hs)
              have B14 := Lib.hid (B13.out.trans (hs.mono B13.out.size))
              have J3 := Lib.hid (J2.out.below hs)
              have P1 := Lib.hid (P0.out.below hs)
              clear R14 U14 B13 J2 P0
              clear hs
              go_wp2_with fail
              refine (awakeR L.out.1 _).mono ?_
              rintro ev w15 ⟨rfl, hs⟩
              have R16 := Lib.hid (R15.out.below hs)
              have U16 := Lib.hid (U15.out.below hs)
              have B15 := Lib.hid (B14.out.trans (hs.mono B14.out.size))
              have J4 := Lib.hid (J3.out.below hs)
              have P2 := Lib.hid (P1.out.below hs)
              clear R15 U15 B14 J3 P1
              clear hs
              go_wp2
              go_ret
              exact ⟨rfl, B15.out⟩
            · obtain ⟨d, dff, hua⟩ := U10.out.addr h3
              subst hua
              have y0 := (U10.out.cellsAt 0 (by omega)).1
              simp only [Nat.zero_mul, Nat.add_zero] at y0
              have CL := Lib.hid (clash_last hp (ss := ss) (fun e => h3 (by rw [e]; rfl)))
              obtain ⟨q, hq⟩ : ∃ q, ss.length = q + 1 := ⟨ss.length - 1, by omega⟩
              have hql : (q : Int) + 1 ≤ 1000 := by have := K2.out; omega
              rw [hq]
              have U11 := Lib.hid (hq ▸ U10.out)
              have n3 : (0 : Int) ≤ (p : Int) := by omega
              have n4 : (p : Int) < (p : Int) + 1 := by omega
              have n5 : IntKind.i64.wrap (p : Int) = (p : Int) := Go.IntWalk.i64_in _ (by omega)
              have n6 : (0 : Int) < (q : Int) + 1 := by omega
              generalize (rs.getD p r0).1 = x at *
              generalize (ss.getD 0 r0).1 = y at *
              have F0 := Lib.hid (x0)
              have G0 := Lib.hid (y0)
              clear x0 y0 hp h3 hq
              obtain ⟨cc, hcz⟩ : ∃ cc, cmp x.data.toList y.data.toList = cc := ⟨_, rfl⟩
              have Z := Lib.hid hcz
              cases hb : bef x.data.toList y.data.toList with
              | false =>
                have hn := cmp_geC hb
                rw [hcz] at hn
                have CK := Lib.hid (CL.out.trans (congrArg (fun t => !t) hb))
                clear hb hcz CL
                go_wp2_with fail
                refine (L.out.1.joinNo (.slice (some ⟨b, off, none⟩) (p + 1) cap) (.slice (some ⟨d, dff, none⟩) (q + 1) uc) rs ss _ R11.out U11.out K.out K2.out CK.out).mono ?_
                rintro ev w11 ⟨j, rfl, h1, hs⟩
                have R12 := Lib.hid (R11.out.below hs)
                have U12 := Lib.hid (U11.out.below hs)
                have B11 := Lib.hid (B10.out.trans (hs.mono B10.out.size))
                have F1 := Lib.hid (cell_step F0.out hs)
                have G1 := Lib.hid (cell_step G0.out hs)
                clear R11 U11 B10 F0 G0
                have J0 := Lib.hid (h1)
                clear hs h1
                obtain ⟨ja, jc, hj, -, -⟩ := J0.out.lenform
                subst hj
                simp only [List.length_nil]
                go_wp2_with fail
                have R13 := Lib.hid (R12.out.below (Below.refl _ _).drew)
                have U13 := Lib.hid (U12.out.below (Below.refl _ _).drew)
                have B12 := Lib.hid (B11.out.trans ((Below.refl _ _).drew.mono B11.out.size))
                have F2 := Lib.hid (cell_step F1.out (Below.refl _ _).drew)
                have G2 := Lib.hid (cell_step G1.out (Below.refl _ _).drew)
                have J1 := Lib.hid (J0.out.below (Below.refl _ _).drew)
                clear R12 U12 B11 F1 G1 J0
                have zz0 := F2.out
                have zz1 := G2.out
                go_region_held3 (fun w' => w'.cell? ⟨b, off + p * 2, none⟩ = some (.string x) ∧ w'.cell? ⟨d, dff, none⟩ = some (.string y))
                  (first | exact ⟨by assumption, by assumption⟩ | go_keep)
                  (first
                    | (go_at_call 31; (with_reducible refine (stillC (compare_any x y _)).mono ?_); rintro e w12 ⟨rfl, hs⟩; rw [Z.out]; have R14 := Lib.hid (R13.out.below hs); have U14 := Lib.hid (U13.out.below hs); have B13 := Lib.hid (B12.out.trans (hs.mono B12.out.size)); have F3 := Lib.hid (cell_step F2.out hs); have G3 := Lib.hid (cell_step G2.out hs); have J2 := Lib.hid (J1.out.below hs); clear R13 U13 B12 F2 G2 J1; have zz0_0 := F3.out; have zz1_0 := G3.out; clear hs))
                go_wp2_with fail
                refine (Is_code 2 2 _).mono ?_
                rintro ev w13 ⟨rfl, rfl⟩
                have e1 : ((2 : Int) == 2) = true := rfl
                rw [e1]
                clear e1
                go_wp2_with fail
                refine (awakeR L.out.1 _).mono ?_
                rintro ev w14 ⟨rfl, hs⟩
                have R15 := Lib.hid (R14.out.below hs)
                have U15 := Lib.hid (U14.out.below hs)
                have B14 := Lib.hid (B13.out.trans (hs.mono B13.out.size))
                have F4 := Lib.hid (cell_step F3.out hs)
                have G4 := Lib.hid (cell_step G3.out hs)
                have J3 := Lib.hid (J2.out.below hs)
                clear R14 U14 B13 F3 G3 J2
                clear hs
                go_wp2
                go_ret
                exact ⟨rfl, B14.out⟩
              | true =>
                have hn := cmp_ltC hb
                rw [hcz] at hn
                have CK := Lib.hid (CL.out.trans (congrArg (fun t => !t) hb))
                clear hb hcz CL
                go_wp2_with fail
                refine (L.out.1.join (.slice (some ⟨b, off, none⟩) (p + 1) cap) (.slice (some ⟨d, dff, none⟩) (q + 1) uc) rs ss _ R11.out U11.out K.out K2.out CK.out).mono ?_
                rintro ev w11 ⟨j, rfl, h1, hs⟩
                have R12 := Lib.hid (R11.out.below hs)
                have U12 := Lib.hid (U11.out.below hs)
                have B11 := Lib.hid (B10.out.trans (hs.mono B10.out.size))
                have F1 := Lib.hid (cell_step F0.out hs)
                have G1 := Lib.hid (cell_step G0.out hs)
                clear R11 U11 B10 F0 G0
                have J0 := Lib.hid (h1)
                clear hs h1
                go_wp2_with fail
                have R13 := Lib.hid (R12.out.below (Below.refl _ _).drew)
                have U13 := Lib.hid (U12.out.below (Below.refl _ _).drew)
                have B12 := Lib.hid (B11.out.trans ((Below.refl _ _).drew.mono B11.out.size))
                have F2 := Lib.hid (cell_step F1.out (Below.refl _ _).drew)
                have G2 := Lib.hid (cell_step G1.out (Below.refl _ _).drew)
                have J1 := Lib.hid (J0.out.below (Below.refl _ _).drew)
                clear R12 U12 B11 F1 G1 J0
                have zz0 := F2.out
                have zz1 := G2.out
                go_region_held3 (fun w' => w'.cell? ⟨b, off + p * 2, none⟩ = some (.string x) ∧ w'.cell? ⟨d, dff, none⟩ = some (.string y))
                  (first | exact ⟨by assumption, by assumption⟩ | go_keep)
                  (first
                    | (go_at_call 31; (with_reducible refine (stillC (compare_any x y _)).mono ?_); rintro e w12 ⟨rfl, hs⟩; rw [Z.out]; have R14 := Lib.hid (R13.out.below hs); have U14 := Lib.hid (U13.out.below hs); have B13 := Lib.hid (B12.out.trans (hs.mono B12.out.size)); have F3 := Lib.hid (cell_step F2.out hs); have G3 := Lib.hid (cell_step G2.out hs); have J2 := Lib.hid (J1.out.below hs); clear R13 U13 B12 F2 G2 J1; have zz0_0 := F3.out; have zz1_0 := G3.out; clear hs))
                go_wp2_with fail
                refine (own_any (.slice (some ⟨b, off, none⟩) (p + 1) cap) rs _ R14.out K.out).mono ?_
                rintro ev w13 ⟨o, rfl, ho, hs1⟩
                have HO := Lib.hid ho
                have H1 := Lib.hid hs1
                have HU := Lib.hid (U14.out.below hs1)
                clear ho hs1
                go_wp2_with (at_builtin; go_must (refine wpList_appG (by rfl) (.tmp 173) (.tmp 174) rfl _ rfl rfl HO.out HU.out (by have := K.out; have := K2.out; omega) H1.out.size ?_))
                intro p w14 hp hg
                have hs := app_below H1.out HO.out (Nat.le_refl _) H1.out.size hg
                have HP := Lib.hid (hp.rows (R14.out.small.append U14.out.small))
                have R15 := Lib.hid (R14.out.below hs)
                have U15 := Lib.hid (U14.out.below hs)
                have B14 := Lib.hid (B13.out.trans (hs.mono B13.out.size))
                have F4 := Lib.hid (cell_step F3.out hs)
                have G4 := Lib.hid (cell_step G3.out hs)
                have J3 := Lib.hid (J2.out.below hs)
                clear R14 U14 B13 F3 G3 J2
                clear hs hp hg HO H1 HU
                have P0 := Lib.hid (HP.out)
                clear HP
                go_wp2_with fail
                refine (refSame_any j p _ _ _ J3.out P0.out).mono ?_
                rintro ev w15 ⟨rfl, hs⟩
                rw [sameR_self]
                have R16 := Lib.hid (R15.out.below hs)
                have U16 := Lib.hid (U15.out.below hs)
                have B15 := Lib.hid (B14.out.trans (hs.mono B14.out.size))
                have F5 := Lib.hid (cell_step F4.out hs)
                have G5 := Lib.hid (cell_step G4.out hs)
                have J4 := Lib.hid (J3.out.below hs)
                have P1 := Lib.hid (P0.out.below hs)
                clear R15 U15 B14 F4 G4 J3 P0
                clear hs
                go_wp2_with fail
                refine (awakeR L.out.1 _).mono ?_
                rintro ev w16 ⟨rfl, hs⟩
                have R17 := Lib.hid (R16.out.below hs)
                have U17 := Lib.hid (U16.out.below hs)
                have B16 := Lib.hid (B15.out.trans (hs.mono B15.out.size))
                have F6 := Lib.hid (cell_step F5.out hs)
                have G6 := Lib.hid (cell_step G5.out hs)
                have J5 := Lib.hid (J4.out.below hs)
                have P2 := Lib.hid (P1.out.below hs)
                clear R16 U16 B15 F5 G5 J4 P1
                clear hs
                go_wp2
                go_ret
                exact ⟨rfl, B16.out⟩
      · go_wp2_with fail
        refine (awakeR L.out.1 _).mono ?_
        rintro ev w3 ⟨rfl, hs⟩
        have R3 := Lib.hid (R2.out.below hs)
        have U3 := Lib.hid (U2.out.below hs)
        have B3 := Lib.hid (B2.out.trans (hs.mono B2.out.size))
        clear R2 U2 B2
        clear hs
        go_wp2
        go_ret
        exact ⟨rfl, B3.out⟩
end Go.Proofs.Ytaaikmompiejdaa
