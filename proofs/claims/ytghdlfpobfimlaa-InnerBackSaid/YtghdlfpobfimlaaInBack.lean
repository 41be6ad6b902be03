/- The walk of the law InnerBack, out of package inner's contracts. -/
import Derived.Test.YtghdlfpobfimlaaInRef
namespace Go.Proofs.Ytghdlfpobfimlaa
open Go.RowKit

set_option maxRecDepth 100000 in
set_option maxHeartbeats 4000000 in
theorem lawBack (C : InC) (u : Value) (ds : List RcD) (w : World) (hv : ChW w u ds) :
    Calls Try.prog 6 #[u] w fun ev w' => ev = .returned (.bool true) ∧ Below w.heap.size w w' := by
  have hnot : ∀ (x : Bool) (w : World), (Op.unary .not (.bool x)).run Try.prog w = .ok (.bool (!x)) w := fun _ _ => rfl
  have L0 := Lib.hid hv
  have B0 := Lib.hid (Below.refl w.heap.size w)
  clear hv
  go_enter Try.func6, Try.ntmps6
  go_wp2_with fail
  refine (fewI_any u ds _ L0.out).mono ?_
  rintro ev w1 ⟨b, rfl, hok, hs⟩
  have L1 := Lib.hid (L0.out.below hs)
  have B1 := Lib.hid (B0.out.trans (hs.mono B0.out.size))
  clear L0 B0
  clear hs
  cases b with
  | false =>
    clear hok
    go_wp2_with fail
    refine (awakeI C _).mono ?_
    rintro ev w2 ⟨rfl, hs⟩
    have L2 := Lib.hid (L1.out.below hs)
    have B2 := Lib.hid (B1.out.trans (hs.mono B1.out.size))
    clear L1 B1
    clear hs
    go_wp2
    go_ret
    exact ⟨rfl, B2.out⟩
  | true =>
    have FW := Lib.hid (hok rfl)
    clear hok
    have SZ := Lib.hid B1.out.size
    go_wp2_with fail
    refine (ownI_any u ds _ L1.out (by have := FW.out.1; omega)).mono ?_
    rintro ev w2 ⟨x, dx, rfl, hx, hR1, hs⟩
    have L2 := Lib.hid (L1.out.below hs)
    have B2 := Lib.hid (B1.out.trans (hs.mono B1.out.size))
    clear L1 B1
    have X0 := Lib.hid (hx.mono SZ.out)
    clear hs hx SZ
    have R1 := Lib.hid hR1
    have R1L := Lib.hid (few_read FW.out hR1)
    clear hR1
    go_wp2_with fail
    refine (C.fold _ x dx _ X0.out (by have := R1L.out.1; omega) (by have := R1L.out.2; omega)).mono ?_
    rintro ev w3 ⟨en, rfl, hen, hsz, hs⟩
    rw [R1.out] at hen hsz
    rw [R1.out]
    have L3 := Lib.hid (L2.out.below hs)
    have B3 := Lib.hid (B2.out.trans (hs.mono B2.out.size))
    have X1 := Lib.hid (X0.out.below hs)
    clear L2 B2 X0
    have E0 := Lib.hid (hen)
    have Z0 := Lib.hid (hsz)
    clear hs hen hsz
    obtain ⟨v, hv⟩ : ∃ v, viewI (readC ds) = v := ⟨_, rfl⟩
    rw [hv] at E0 Z0
    rw [hv]
    obtain ⟨m, hm⟩ : ∃ m, v.ents.length = m := ⟨_, rfl⟩
    obtain ⟨xa, xc, rfl, -, -⟩ := E0.out.lenN hm
    have HM := Lib.hid hm
    have N1 := Lib.hid hv
    clear hv hm
    unfold ivVal
    by_cases hc : codeI (readC ds) = 0
    · have EBd := Lib.hid E0.out.bounds
      have W3 := Lib.hid B3.out.size
      rw [errV_zero hc]
      have HC := Lib.hid hc
      have HF := Lib.hid (viewI_some hc N1.out)
      have HG := Lib.hid (goodI_fold HF.out)
      have HL := Lib.hid (show v.ents.length ≤ 1000 from fold_lenI HF.out (by have := FW.out.2.1; have := FW.out.1; rw [totalI_read]; simp only [readC, List.length_map]; omega))
      clear hc
      have hs := alloc_below0 w3 (ivObj v (.slice xa m xc))
      have L4 := Lib.hid (L3.out.below hs)
      have B4 := Lib.hid (B3.out.trans (hs.mono B3.out.size))
      have X2 := Lib.hid (X1.out.below hs)
      have E1 := Lib.hid (E0.out.below hs)
      clear L3 B3 X1 E0
      have V0 := Lib.hid (VB.new v (.slice xa m xc) w3)
      have H0 := Lib.hid (HB.new (ivObj v (.slice xa m xc)) w3)
      clear hs
      unfold ivObj at L4 B4 X2 E1 V0 H0
      have v_0 := V0.out.c0
      have v_1 := V0.out.c1
      have v_2 := V0.out.c2
      have v_3 := V0.out.c3
      have v_4 := V0.out.c4
      have v_5 := V0.out.c5
      have v_6 := V0.out.c6
      have v_7 := V0.out.c7
      have v_8 := V0.out.c8
      have SZ := Lib.hid B4.out.size
      go_wp2_with fail
      refine (C.base _ v (.slice xa m xc) _ E1.out HL.out Z0.out).mono ?_
      rintro ev w4 ⟨r, rfl, hr, hs⟩
      obtain ⟨ra, rc, ea, ec, rfl, hro⟩ := hr.open
      obtain ⟨R, hR⟩ : ∃ R, R = baseR v := ⟨_, rfl⟩
      rw [← hR] at hro
      rw [← hR]
      have RR := Lib.hid hR
      have RO := Lib.hid hro
      clear hr hro hR
      clear v_0 v_1 v_2 v_3 v_4 v_5 v_6 v_7 v_8
      have L5 := Lib.hid (L4.out.below hs)
      have B5 := Lib.hid (B4.out.trans (hs.mono B4.out.size))
      have X3 := Lib.hid (X2.out.below hs)
      have E2 := Lib.hid (E1.out.below hs)
      have V1 := Lib.hid (V0.out.below hs)
      have H1 := Lib.hid (H0.out.below hs)
      clear L4 B4 X2 E1 V0 H0
      clear hs
      obtain ⟨rn, hrn⟩ : ∃ n, R.rows.length = n := ⟨_, rfl⟩
      obtain ⟨en, hen⟩ : ∃ n, R.ents.length = n := ⟨_, rfl⟩
      rw [hrn, hen]
      have CB := B5.out.size
      have hs := alloc_below0 w4 (recObj R.sc (.slice ra rn rc) (.slice ea en ec))
      have L6 := Lib.hid (L5.out.below hs)
      have B6 := Lib.hid (B5.out.trans (hs.mono B5.out.size))
      have X4 := Lib.hid (X3.out.below hs)
      have E3 := Lib.hid (E2.out.below hs)
      have V2 := Lib.hid (V1.out.below hs)
      have H2 := Lib.hid (H1.out.below hs)
      clear L5 B5 X3 E2 V1 H1
      have P0 := Lib.hid (show ChO w.heap.size (w4.alloc (recObj R.sc (.slice ra rn rc) (.slice ea en ec))) (.slice (some ⟨w4.heap.size, 0, none⟩) 1 1) [⟨R.sc, ra, rc, ea, ec, R.rows, R.ents⟩] by rw [← hrn, ← hen]; exact ChO.one (w := w4) rfl CB (RO.out.mono SZ.out))
      clear hs CB SZ RO
      have RQ := Lib.hid (show readC [⟨R.sc, ra, rc, ea, ec, R.rows, R.ents⟩] = [R] from rfl)
      have EQ := Lib.hid (show ([(⟨R.sc, ra, rc, ea, ec, R.rows, R.ents⟩ : RcD)].map fun d => d.ents.length).sum ≤ 1000 by have := HL.out; show R.ents.length + 0 ≤ 1000; rw [RR.out]; exact this)
      clear hrn hen
      unfold recObj at L6 B6 X4 E3 V2 H2 P0
      unfold recVal
      have LT2 := Lib.hid ((Array.getElem?_eq_some_iff.1 H2.out.b).1)
      go_wp2_with fail
      refine (C.fold _ _ [⟨R.sc, ra, rc, ea, ec, R.rows, R.ents⟩] _ P0.out (show 1 ≤ 100 by decide) EQ.out).mono ?_
      rintro ev w5 ⟨en2, rfl, hen, hsz, hs⟩
      rw [RQ.out] at hen hsz
      rw [RQ.out]
      have L7 := Lib.hid (L6.out.below hs)
      have B7 := Lib.hid (B6.out.trans (hs.mono B6.out.size))
      have X5 := Lib.hid (X4.out.below hs)
      have E4 := Lib.hid (E3.out.below hs)
      have V3 := Lib.hid (V2.out.below hs)
      have H3 := Lib.hid (H2.out.below hs)
      have P1 := Lib.hid (P0.out.below hs)
      clear L6 B6 X4 E3 V2 H2 P0
      have E20 := Lib.hid (hen)
      have Z20 := Lib.hid (hsz)
      clear hs hen hsz RQ EQ
      have LT := Lib.hid ((Array.getElem?_eq_some_iff.1 H3.out.b).1)
      have BF := code_yes (l := [R]) (by rw [RR.out]; rfl) (by rw [RR.out]; exact back_fold HG.out)
      rw [BF.2] at E20 Z20
      rw [BF.1, BF.2, errV_zero rfl]
      clear BF
      obtain ⟨za, zc, rfl, -, -⟩ := E20.out.lenN HM.out
      unfold ivVal
      simp only
      have hs := alloc_below0 w5 (ivObj ⟨v.low, v.high, v.unb, v.right, v.ents, false, 0, 0, ⟨#[]⟩⟩ (.slice za m zc))
      have L8 := Lib.hid (L7.out.below hs)
      have B8 := Lib.hid (B7.out.trans (hs.mono B7.out.size))
      have X6 := Lib.hid (X5.out.below hs)
      have E5 := Lib.hid (E4.out.below hs)
      have V4 := Lib.hid (V3.out.below hs)
      have H4 := Lib.hid (H3.out.below hs)
      have P2 := Lib.hid (P1.out.below hs)
      have E21 := Lib.hid (E20.out.below hs)
      clear L7 B7 X5 E4 V3 H3 P1 E20
      have U0 := Lib.hid (VB.new ⟨v.low, v.high, v.unb, v.right, v.ents, false, 0, 0, ⟨#[]⟩⟩ (.slice za m zc) w5)
      clear hs
      unfold ivObj at L8 B8 X6 E5 V4 H4 P2 E21 U0
      have f5 := blk_free H4.out.b 5
      have f6 := blk_free H4.out.b 6
      have f7 := blk_free H4.out.b 7
      have f8 := blk_free H4.out.b 8
      have g5 := blk_cell H4.out.b 5
      have g6 := blk_cell H4.out.b 6
      have g7 := blk_cell H4.out.b 7
      have g8 := blk_cell H4.out.b 8
      simp at g5 g6 g7 g8
      go_wp2_with fail
      have KS := Lib.hid (((((Kept.refl (fun k => k = w3.heap.size) (w5.alloc (ivObj ⟨v.low, v.high, v.unb, v.right, v.ents, false, 0, 0, ⟨#[]⟩⟩ (.slice za m zc)))).setCell 5 (.bool false)).setCell 6 (.int .i64 0)).setCell 7 (.int .i64 0)).setCell 8 (.string ⟨#[]⟩))
      have HS := Lib.hid (blk_set (blk_set (blk_set (blk_set H4.out.b 5 (.bool false)) 6 (.int .i64 0)) 7 (.int .i64 0)) 8 (.string ⟨#[]⟩))
      unfold ivObj at KS
      generalize hw6 : World.setCell _ _ _ = w6 at KS HS ⊢
      clear hw6 f5 f6 f7 f8 g5 g6 g7 g8
      have U1 := Lib.hid (U0.out.kept KS.out (fun h => by have := LT.out; omega))
      have E6 := Lib.hid (E5.out.kept KS.out (fun a n c hv hs => by have := (EBd.out a.block (by rw [hv]; rfl)).2; omega))
      have E22 := Lib.hid (E21.out.kept KS.out (E21.out.out (fun k h => by have := LT2.out; omega)))
      have B9 := Lib.hid (B8.out.trans (KS.out.below (n := w.heap.size) (fun k h => by rw [h]; exact W3.out) B8.out.size))
      have V5 := Lib.hid (show VB w3.heap.size ⟨v.low, v.high, v.unb, v.right, v.ents, false, 0, 0, ⟨#[]⟩⟩ (.slice xa m xc) w6 from VB.of_blk HS.out)
      clear KS HS L8 B8 X6 E5 V4 H4 P2 E21 U0
      have cv1 := fun w => viewI_any ⟨v.low, v.high, v.unb, v.right, v.ents, false, 0, 0, ⟨#[]⟩⟩ xa m xc w
      have cv2 := fun w => viewI_any ⟨v.low, v.high, v.unb, v.right, v.ents, false, 0, 0, ⟨#[]⟩⟩ za m zc w
      have cs := fun w h1 h2 => sameI_any ⟨v.low, v.high, v.unb, v.right, v.ents, false, 0, 0, ⟨#[]⟩⟩ (.slice xa m xc) (.slice za m zc) w h1 h2
      simp only [ivVal] at cv1 cv2 cs
      have B10 := Lib.hid (B9.out.trans (((Below.refl _ _).drew).mono B9.out.size))
      have E7 := Lib.hid (E6.out.below ((Below.refl _ _).drew))
      have V6 := Lib.hid (V5.out.below ((Below.refl _ _).drew))
      have E23 := Lib.hid (E22.out.below ((Below.refl _ _).drew))
      have U2 := Lib.hid (U1.out.below ((Below.refl _ _).drew))
      clear B9 E6 V5 E22 U1
      have z0_V_0 := V6.out.c0
      have z0_V_1 := V6.out.c1
      have z0_V_2 := V6.out.c2
      have z0_V_3 := V6.out.c3
      have z0_V_4 := V6.out.c4
      have z0_V_5 := V6.out.c5
      have z0_V_6 := V6.out.c6
      have z0_V_7 := V6.out.c7
      have z0_V_8 := V6.out.c8
      have z0_U_0 := U2.out.c0
      have z0_U_1 := U2.out.c1
      have z0_U_2 := U2.out.c2
      have z0_U_3 := U2.out.c3
      have z0_U_4 := U2.out.c4
      have z0_U_5 := U2.out.c5
      have z0_U_6 := U2.out.c6
      have z0_U_7 := U2.out.c7
      have z0_U_8 := U2.out.c8
      go_region_held3 (fun w' => w'.cell? ⟨w3.heap.size, 0, none⟩ = some (.string v.low) ∧ w'.cell? ⟨w3.heap.size, 1, none⟩ = some (.string v.high) ∧ w'.cell? ⟨w3.heap.size, 2, none⟩ = some (.bool v.unb) ∧ w'.cell? ⟨w3.heap.size, 3, none⟩ = some (.int .i64 v.right) ∧ w'.cell? ⟨w3.heap.size, 4, none⟩ = some (.slice xa m xc) ∧ w'.cell? ⟨w3.heap.size, 5, none⟩ = some (.bool false) ∧ w'.cell? ⟨w3.heap.size, 6, none⟩ = some (.int .i64 0) ∧ w'.cell? ⟨w3.heap.size, 7, none⟩ = some (.int .i64 0) ∧ w'.cell? ⟨w3.heap.size, 8, none⟩ = some (.string ⟨#[]⟩) ∧ w'.cell? ⟨w5.heap.size, 0, none⟩ = some (.string v.low) ∧ w'.cell? ⟨w5.heap.size, 1, none⟩ = some (.string v.high) ∧ w'.cell? ⟨w5.heap.size, 2, none⟩ = some (.bool v.unb) ∧ w'.cell? ⟨w5.heap.size, 3, none⟩ = some (.int .i64 v.right) ∧ w'.cell? ⟨w5.heap.size, 4, none⟩ = some (.slice za m zc) ∧ w'.cell? ⟨w5.heap.size, 5, none⟩ = some (.bool false) ∧ w'.cell? ⟨w5.heap.size, 6, none⟩ = some (.int .i64 0) ∧ w'.cell? ⟨w5.heap.size, 7, none⟩ = some (.int .i64 0) ∧ w'.cell? ⟨w5.heap.size, 8, none⟩ = some (.string ⟨#[]⟩))
        (first | exact ⟨by assumption, by assumption, by assumption, by assumption, by assumption, by assumption, by assumption, by assumption, by assumption, by assumption, by assumption, by assumption, by assumption, by assumption, by assumption, by assumption, by assumption, by assumption⟩ | go_keep)
        (first
          | (go_at_call 20; (with_reducible refine (cv1 _).mono ?_); rintro e w6 ⟨rfl, hs⟩; have B11 := Lib.hid (B10.out.trans (hs.mono B10.out.size)); have E8 := Lib.hid (E7.out.below hs); have V7 := Lib.hid (V6.out.below hs); have E24 := Lib.hid (E23.out.below hs); have U3 := Lib.hid (U2.out.below hs); clear B10 E7 V6 E23 U2; have z1_V_0 := V7.out.c0; have z1_V_1 := V7.out.c1; have z1_V_2 := V7.out.c2; have z1_V_3 := V7.out.c3; have z1_V_4 := V7.out.c4; have z1_V_5 := V7.out.c5; have z1_V_6 := V7.out.c6; have z1_V_7 := V7.out.c7; have z1_V_8 := V7.out.c8; have z1_U_0 := U3.out.c0; have z1_U_1 := U3.out.c1; have z1_U_2 := U3.out.c2; have z1_U_3 := U3.out.c3; have z1_U_4 := U3.out.c4; have z1_U_5 := U3.out.c5; have z1_U_6 := U3.out.c6; have z1_U_7 := U3.out.c7; have z1_U_8 := U3.out.c8; clear hs)
          | (go_at_call 20; (with_reducible refine (cv2 _).mono ?_); rintro e w7 ⟨rfl, hs⟩; have B12 := Lib.hid (B11.out.trans (hs.mono B11.out.size)); have E9 := Lib.hid (E8.out.below hs); have V8 := Lib.hid (V7.out.below hs); have E25 := Lib.hid (E24.out.below hs); have U4 := Lib.hid (U3.out.below hs); clear B11 E8 V7 E24 U3; have z2_V_0 := V8.out.c0; have z2_V_1 := V8.out.c1; have z2_V_2 := V8.out.c2; have z2_V_3 := V8.out.c3; have z2_V_4 := V8.out.c4; have z2_V_5 := V8.out.c5; have z2_V_6 := V8.out.c6; have z2_V_7 := V8.out.c7; have z2_V_8 := V8.out.c8; have z2_U_0 := U4.out.c0; have z2_U_1 := U4.out.c1; have z2_U_2 := U4.out.c2; have z2_U_3 := U4.out.c3; have z2_U_4 := U4.out.c4; have z2_U_5 := U4.out.c5; have z2_U_6 := U4.out.c6; have z2_U_7 := U4.out.c7; have z2_U_8 := U4.out.c8; clear hs)
          | (go_at_call 19; (with_reducible refine (cs _ E9.out.sv E25.out.sv).mono ?_); rintro e w8 ⟨rfl, hs⟩; have B13 := Lib.hid (B12.out.trans (hs.mono B12.out.size)); have E10 := Lib.hid (E9.out.below hs); have V9 := Lib.hid (V8.out.below hs); have E26 := Lib.hid (E25.out.below hs); have U5 := Lib.hid (U4.out.below hs); clear B12 E9 V8 E25 U4; have z3_V_0 := V9.out.c0; have z3_V_1 := V9.out.c1; have z3_V_2 := V9.out.c2; have z3_V_3 := V9.out.c3; have z3_V_4 := V9.out.c4; have z3_V_5 := V9.out.c5; have z3_V_6 := V9.out.c6; have z3_V_7 := V9.out.c7; have z3_V_8 := V9.out.c8; have z3_U_0 := U5.out.c0; have z3_U_1 := U5.out.c1; have z3_U_2 := U5.out.c2; have z3_U_3 := U5.out.c3; have z3_U_4 := U5.out.c4; have z3_U_5 := U5.out.c5; have z3_U_6 := U5.out.c6; have z3_U_7 := U5.out.c7; have z3_U_8 := U5.out.c8; clear hs)
          | (go_at_call 9; (with_reducible refine (awakeI C _).mono ?_); rintro e w9 ⟨rfl, hs⟩; have B14 := Lib.hid (B13.out.trans (hs.mono B13.out.size)); have E11 := Lib.hid (E10.out.below hs); have V10 := Lib.hid (V9.out.below hs); have E27 := Lib.hid (E26.out.below hs); have U6 := Lib.hid (U5.out.below hs); clear B13 E10 V9 E26 U5; have z4_V_0 := V10.out.c0; have z4_V_1 := V10.out.c1; have z4_V_2 := V10.out.c2; have z4_V_3 := V10.out.c3; have z4_V_4 := V10.out.c4; have z4_V_5 := V10.out.c5; have z4_V_6 := V10.out.c6; have z4_V_7 := V10.out.c7; have z4_V_8 := V10.out.c8; have z4_U_0 := U6.out.c0; have z4_U_1 := U6.out.c1; have z4_U_2 := U6.out.c2; have z4_U_3 := U6.out.c3; have z4_U_4 := U6.out.c4; have z4_U_5 := U6.out.c5; have z4_U_6 := U6.out.c6; have z4_U_7 := U6.out.c7; have z4_U_8 := U6.out.c8; clear hs))
      go_wp2
      go_ret
      exact ⟨rfl, B14.out⟩
    · rw [errV_code hc]
      clear hc
      have hs := alloc_below0 w3 (ivObj v (.slice xa m xc))
      have L4 := Lib.hid (L3.out.below hs)
      have B4 := Lib.hid (B3.out.trans (hs.mono B3.out.size))
      have X2 := Lib.hid (X1.out.below hs)
      have E1 := Lib.hid (E0.out.below hs)
      clear L3 B3 X1 E0
      have V0 := Lib.hid (VB.new v (.slice xa m xc) w3)
      clear hs
      unfold ivObj at L4 B4 X2 E1 V0
      go_wp2_with fail
      refine (awakeI C _).mono ?_
      rintro ev w4 ⟨rfl, hs⟩
      have L5 := Lib.hid (L4.out.below hs)
      have B5 := Lib.hid (B4.out.trans (hs.mono B4.out.size))
      have X3 := Lib.hid (X2.out.below hs)
      have E2 := Lib.hid (E1.out.below hs)
      have V1 := Lib.hid (V0.out.below hs)
      clear L4 B4 X2 E1 V0
      clear hs
      go_wp2
      go_ret
      exact ⟨rfl, B5.out⟩
end Go.Proofs.Ytghdlfpobfimlaa
