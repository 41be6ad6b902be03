/- The walk of the law InnerAsks, out of package inner's contracts. -/
import Derived.Test.YtkkmfacngmginaaDoorInAskB
import Derived.Test.YtkkmfacngmginaaDoorInC
namespace Go.Proofs.YtkkmfacngmginaaDoor
open Go.RowKit

set_option maxRecDepth 100000 in
set_option maxHeartbeats 16000000 in
theorem lawAsks (C : InC) (v : IvD) (a : Option Addr) (c : Nat) (key : ByteArray) (page : Int) (w : World) (hv : ViewW w v a c) (hk : key.size ≤ maxLen) (hg : Ea.Glob w) :
    Calls Tryd.prog 3 #[ivVal v (.slice a v.ents.length c), .string key, .int .i64 page] w fun ev w' => ev = .returned (.bool true) ∧ Below w.heap.size w w' := by
  have hnot : ∀ (x : Bool) (w : World), (Op.unary .not (.bool x)).run Tryd.prog w = .ok (.bool (!x)) w := fun _ _ => rfl
  have HK := Lib.hid hk
  unfold maxLen at hk
  have b0 := alloc_below0 w (ivObjR v (.slice a v.ents.length c))
  have B0 := Lib.hid b0
  have W0 := Lib.hid (hv.below b0)
  have GL0 := Lib.hid (hg.below b0)
  have RV0 := Lib.hid (VB.newR v (.slice a v.ents.length c) w)
  have SZ := Lib.hid hv.sz
  clear b0 hv hg
  unfold ivObjR at B0 W0 GL0 RV0
  unfold ivVal
  go_enter Tryd.func3, Tryd.ntmps3
  go_wp2_with fail
  refine (refBase_any v a v.ents.length c _).mono ?_
  rintro ev w1 ⟨rfl, hs⟩
  unfold recVal
  simp only [baseS]
  have B1 := Lib.hid (B0.out.trans (hs.mono B0.out.size))
  have W1 := Lib.hid (W0.out.below hs)
  have GL1 := Lib.hid (GL0.out.below hs)
  have RV1 := Lib.hid (RV0.out.below hs)
  clear B0 W0 GL0 RV0
  clear hs
  have hs := alloc_below0 w1 (.cells (baseD1 v a c).cells.toArray 32)
  have CH := Lib.hid (W1.out.chain (n := w1.heap.size) rfl)
  have B2 := Lib.hid (B1.out.trans (hs.mono B1.out.size))
  have W2 := Lib.hid (W1.out.below hs)
  have GL2 := Lib.hid (GL1.out.below hs)
  have RV2 := Lib.hid (RV1.out.below hs)
  clear B1 W1 GL1 RV1
  clear hs
  go_wp2_with fail
  refine (fewI_any _ [baseD1 v a c] _ CH.out).mono ?_
  rintro ev w2 ⟨b, rfl, hok, hs⟩
  have B3 := Lib.hid (B2.out.trans (hs.mono B2.out.size))
  have W3 := Lib.hid (W2.out.below hs)
  have GL3 := Lib.hid (GL2.out.below hs)
  have RV3 := Lib.hid (RV2.out.below hs)
  clear B2 W2 GL2 RV2
  clear hs CH
  cases b with
  | false =>
    clear hok
    go_wp2_with fail
    refine (awakeI C _).mono ?_
    rintro ev w3 ⟨rfl, hs⟩
    have B4 := Lib.hid (B3.out.trans (hs.mono B3.out.size))
    have W4 := Lib.hid (W3.out.below hs)
    have GL4 := Lib.hid (GL3.out.below hs)
    have RV4 := Lib.hid (RV3.out.below hs)
    clear B3 W3 GL3 RV3
    clear hs
    go_wp2
    go_ret
    exact ⟨rfl, B4.out⟩
  | true =>
    have LE := Lib.hid (show v.ents.length ≤ 100 from (hok rfl).2.2 (baseD1 v a c) (by simp))
    clear hok
    by_cases h100 : key.size ≤ 100
    · by_cases h200 : v.hk.size ≤ 100
      · have r_0 := RV3.out.c0
        have r_1 := RV3.out.c1
        have r_2 := RV3.out.c2
        have r_3 := RV3.out.c3
        have r_4 := RV3.out.c4
        have r_5 := RV3.out.c5
        have r_6 := RV3.out.c6
        have r_7 := RV3.out.c7
        have r_8 := RV3.out.c8
        go_wp2_with fail
        refine (rising_any _ v.ents _ W3.out.sv).mono ?_
        rintro ev w3 ⟨b, rfl, hri, hs⟩
        clear r_0 r_1 r_2 r_3 r_4 r_5 r_6 r_7 r_8
        have B4 := Lib.hid (B3.out.trans (hs.mono B3.out.size))
        have W4 := Lib.hid (W3.out.below hs)
        have GL4 := Lib.hid (GL3.out.below hs)
        have RV4 := Lib.hid (RV3.out.below hs)
        clear B3 W3 GL3 RV3
        clear hs
        cases b with
        | false =>
          clear hri
          go_wp2_with fail
          refine (awakeI C _).mono ?_
          rintro ev w4 ⟨rfl, hs⟩
          have B5 := Lib.hid (B4.out.trans (hs.mono B4.out.size))
          have W5 := Lib.hid (W4.out.below hs)
          have GL5 := Lib.hid (GL4.out.below hs)
          have RV5 := Lib.hid (RV4.out.below hs)
          clear B4 W4 GL4 RV4
          clear hs
          go_wp2
          go_ret
          exact ⟨rfl, B5.out⟩
        | true =>
          have RI := Lib.hid (hri rfl)
          clear hri
          have r_0 := RV4.out.c0
          have r_1 := RV4.out.c1
          have r_2 := RV4.out.c2
          have r_3 := RV4.out.c3
          have r_4 := RV4.out.c4
          have r_5 := RV4.out.c5
          have r_6 := RV4.out.c6
          have r_7 := RV4.out.c7
          have r_8 := RV4.out.c8
          go_wp2_with fail
          refine (given_any v _ _ W4.out.sv (Nat.le_trans LE.out (by decide))).mono ?_
          rintro ev w4 ⟨en, rfl, ho, hs⟩
          obtain ⟨ga, gc, rfl, -, -⟩ := ho.sv.lenform
          clear r_0 r_1 r_2 r_3 r_4 r_5 r_6 r_7 r_8
          have B5 := Lib.hid (B4.out.trans (hs.mono B4.out.size))
          have W5 := Lib.hid (W4.out.below hs)
          have GL5 := Lib.hid (GL4.out.below hs)
          have RV5 := Lib.hid (RV4.out.below hs)
          clear B4 W4 GL4 RV4
          have E0 := Lib.hid (ho)
          clear hs ho
          unfold ivVal
          have hs := alloc_below0 w4 (ivObj v (.slice ga v.ents.length gc))
          have B6 := Lib.hid (B5.out.trans (hs.mono B5.out.size))
          have W6 := Lib.hid (W5.out.below hs)
          have GL6 := Lib.hid (GL5.out.below hs)
          have RV6 := Lib.hid (RV5.out.below hs)
          have E1 := Lib.hid (E0.out.below hs)
          clear B5 W5 GL5 RV5 E0
          have V0 := Lib.hid (VB.new v (.slice ga v.ents.length gc) w4)
          clear hs
          unfold ivObj at B6 W6 GL6 RV6 E1 V0
          obtain ⟨ce, hce⟩ : ∃ e, (childI v key).getD e0 = e := ⟨_, rfl⟩
          obtain ⟨cc, hcc⟩ : ∃ e, childC v key = e := ⟨_, rfl⟩
          obtain ⟨ha, hb, hk3, hho⟩ := hold_form v page
          obtain ⟨hc, hhc⟩ : ∃ e, (holdE v page).2 = e := ⟨_, rfl⟩
          have CE := Lib.hid (And.intro hce hcc)
          have HE := Lib.hid (And.intro hho hhc)
          clear hce hcc hho hhc
          have u_0 := V0.out.c0
          have u_1 := V0.out.c1
          have u_2 := V0.out.c2
          have u_3 := V0.out.c3
          have u_4 := V0.out.c4
          have u_5 := V0.out.c5
          have u_6 := V0.out.c6
          have u_7 := V0.out.c7
          have u_8 := V0.out.c8
          go_wp2_with fail
          refine (C.child _ v (.slice ga v.ents.length gc) key _ E1.out RI.out (Nat.le_trans LE.out (by decide)) SZ.out HK.out).mono ?_
          rintro ev w5 ⟨rfl, hs⟩
          rw [CE.out.1, CE.out.2]
          clear u_0 u_1 u_2 u_3 u_4 u_5 u_6 u_7 u_8
          have B7 := Lib.hid (B6.out.trans (hs.mono B6.out.size))
          have W7 := Lib.hid (W6.out.below hs)
          have GL7 := Lib.hid (GL6.out.below hs)
          have RV7 := Lib.hid (RV6.out.below hs)
          have E2 := Lib.hid (E1.out.below hs)
          have V1 := Lib.hid (V0.out.below hs)
          clear B6 W6 GL6 RV6 E1 V0
          clear hs
          unfold entVal
          have hs := alloc_below0 w5 (entObj ce)
          have B8 := Lib.hid (B7.out.trans (hs.mono B7.out.size))
          have W8 := Lib.hid (W7.out.below hs)
          have GL8 := Lib.hid (GL7.out.below hs)
          have RV8 := Lib.hid (RV7.out.below hs)
          have E3 := Lib.hid (E2.out.below hs)
          have V2 := Lib.hid (V1.out.below hs)
          clear B7 W7 GL7 RV7 E2 V1
          have X0 := Lib.hid (EB.new ce w5)
          clear hs
          unfold entObj at B8 W8 GL8 RV8 E3 V2 X0
          have r_0 := RV8.out.c0
          have r_1 := RV8.out.c1
          have r_2 := RV8.out.c2
          have r_3 := RV8.out.c3
          have r_4 := RV8.out.c4
          have r_5 := RV8.out.c5
          have r_6 := RV8.out.c6
          have r_7 := RV8.out.c7
          have r_8 := RV8.out.c8
          go_wp2_with fail
          refine (refChild_any v _ key _ W8.out.sv SZ.out HK.out).mono ?_
          rintro ev w6 ⟨rfl, hs⟩
          rw [CE.out.1, CE.out.2]
          clear r_0 r_1 r_2 r_3 r_4 r_5 r_6 r_7 r_8
          have B9 := Lib.hid (B8.out.trans (hs.mono B8.out.size))
          have W9 := Lib.hid (W8.out.below hs)
          have GL9 := Lib.hid (GL8.out.below hs)
          have RV9 := Lib.hid (RV8.out.below hs)
          have E4 := Lib.hid (E3.out.below hs)
          have V3 := Lib.hid (V2.out.below hs)
          have X1 := Lib.hid (X0.out.below hs)
          clear B8 W8 GL8 RV8 E3 V2 X0
          clear hs
          unfold entVal
          have hs := alloc_below0 w6 (entObj ce)
          have B10 := Lib.hid (B9.out.trans (hs.mono B9.out.size))
          have W10 := Lib.hid (W9.out.below hs)
          have GL10 := Lib.hid (GL9.out.below hs)
          have RV10 := Lib.hid (RV9.out.below hs)
          have E5 := Lib.hid (E4.out.below hs)
          have V4 := Lib.hid (V3.out.below hs)
          have X2 := Lib.hid (X1.out.below hs)
          clear B9 W9 GL9 RV9 E4 V3 X1
          have Y0 := Lib.hid (EB.new ce w6)
          clear hs
          unfold entObj at B10 W10 GL10 RV10 E5 V4 X2 Y0
          have u_0 := V4.out.c0
          have u_1 := V4.out.c1
          have u_2 := V4.out.c2
          have u_3 := V4.out.c3
          have u_4 := V4.out.c4
          have u_5 := V4.out.c5
          have u_6 := V4.out.c6
          have u_7 := V4.out.c7
          have u_8 := V4.out.c8
          go_wp2_with fail
          refine (C.hold4 _ v (.slice ga v.ents.length gc) page _ E5.out RI.out (Nat.le_trans LE.out (by decide)) SZ.out).mono ?_
          rintro ev w7 ⟨rfl, hs⟩
          rw [HE.out.1, HE.out.2]
          clear u_0 u_1 u_2 u_3 u_4 u_5 u_6 u_7 u_8
          have B11 := Lib.hid (B10.out.trans (hs.mono B10.out.size))
          have W11 := Lib.hid (W10.out.below hs)
          have GL11 := Lib.hid (GL10.out.below hs)
          have RV11 := Lib.hid (RV10.out.below hs)
          have E6 := Lib.hid (E5.out.below hs)
          have V5 := Lib.hid (V4.out.below hs)
          have X3 := Lib.hid (X2.out.below hs)
          have Y1 := Lib.hid (Y0.out.below hs)
          clear B10 W10 GL10 RV10 E5 V4 X2 Y0
          clear hs
          unfold hdVal
          have hs := alloc_below0 w7 (.cells #[.int .i64 ha, .int .i64 hb, .string hk3] 24)
          have B12 := Lib.hid (B11.out.trans (hs.mono B11.out.size))
          have W12 := Lib.hid (W11.out.below hs)
          have GL12 := Lib.hid (GL11.out.below hs)
          have RV12 := Lib.hid (RV11.out.below hs)
          have E7 := Lib.hid (E6.out.below hs)
          have V6 := Lib.hid (V5.out.below hs)
          have X4 := Lib.hid (X3.out.below hs)
          have Y2 := Lib.hid (Y1.out.below hs)
          clear B11 W11 GL11 RV11 E6 V5 X3 Y1
          have P0 := Lib.hid (HB.new (.cells #[.int .i64 ha, .int .i64 hb, .string hk3] 24) w7)
          clear hs
          have r_0 := RV12.out.c0
          have r_1 := RV12.out.c1
          have r_2 := RV12.out.c2
          have r_3 := RV12.out.c3
          have r_4 := RV12.out.c4
          have r_5 := RV12.out.c5
          have r_6 := RV12.out.c6
          have r_7 := RV12.out.c7
          have r_8 := RV12.out.c8
          go_wp2_with fail
          refine (refHold_any v _ page _ W12.out.sv).mono ?_
          rintro ev w8 ⟨rfl, hs⟩
          rw [HE.out.1, HE.out.2]
          clear r_0 r_1 r_2 r_3 r_4 r_5 r_6 r_7 r_8
          have B13 := Lib.hid (B12.out.trans (hs.mono B12.out.size))
          have W13 := Lib.hid (W12.out.below hs)
          have GL13 := Lib.hid (GL12.out.below hs)
          have RV13 := Lib.hid (RV12.out.below hs)
          have E8 := Lib.hid (E7.out.below hs)
          have V7 := Lib.hid (V6.out.below hs)
          have X5 := Lib.hid (X4.out.below hs)
          have Y3 := Lib.hid (Y2.out.below hs)
          have P1 := Lib.hid (P0.out.below hs)
          clear B12 W12 GL12 RV12 E7 V6 X4 Y2 P0
          clear hs
          unfold hdVal
          have hs := alloc_below0 w8 (.cells #[.int .i64 ha, .int .i64 hb, .string hk3] 24)
          have B14 := Lib.hid (B13.out.trans (hs.mono B13.out.size))
          have W14 := Lib.hid (W13.out.below hs)
          have GL14 := Lib.hid (GL13.out.below hs)
          have RV14 := Lib.hid (RV13.out.below hs)
          have E9 := Lib.hid (E8.out.below hs)
          have V8 := Lib.hid (V7.out.below hs)
          have X6 := Lib.hid (X5.out.below hs)
          have Y4 := Lib.hid (Y3.out.below hs)
          have P2 := Lib.hid (P1.out.below hs)
          clear B13 W13 GL13 RV13 E8 V7 X5 Y3 P1
          have Q20 := Lib.hid (HB.new (.cells #[.int .i64 ha, .int .i64 hb, .string hk3] 24) w8)
          clear hs
          go_wp2_with fail
          generalize hw9 : World.alloc w8 _ = w9 at *
          clear hw9
          have HS := Lib.hid (show ∀ w', Below w9.heap.size w9 w' → (fun w' => w'.cell? ⟨w5.heap.size, 0, none⟩ = some (.string ce.1) ∧ w'.cell? ⟨w5.heap.size, 1, none⟩ = some (.int .i64 ce.2) ∧ w'.cell? ⟨w6.heap.size, 0, none⟩ = some (.string ce.1) ∧ w'.cell? ⟨w6.heap.size, 1, none⟩ = some (.int .i64 ce.2) ∧ w'.cell? ⟨w7.heap.size, 0, none⟩ = some (.int .i64 ha) ∧ w'.cell? ⟨w7.heap.size, 1, none⟩ = some (.int .i64 hb) ∧ w'.cell? ⟨w7.heap.size, 2, none⟩ = some (.string hk3) ∧ w'.cell? ⟨w8.heap.size, 0, none⟩ = some (.int .i64 ha) ∧ w'.cell? ⟨w8.heap.size, 1, none⟩ = some (.int .i64 hb) ∧ w'.cell? ⟨w8.heap.size, 2, none⟩ = some (.string hk3) ∧ w'.cell? ⟨w4.heap.size, 0, none⟩ = some (.string v.low) ∧ w'.cell? ⟨w4.heap.size, 1, none⟩ = some (.string v.high) ∧ w'.cell? ⟨w4.heap.size, 2, none⟩ = some (.bool v.unb) ∧ w'.cell? ⟨w4.heap.size, 3, none⟩ = some (.int .i64 v.right) ∧ w'.cell? ⟨w4.heap.size, 4, none⟩ = some (.slice ga v.ents.length gc) ∧ w'.cell? ⟨w4.heap.size, 5, none⟩ = some (.bool v.held) ∧ w'.cell? ⟨w4.heap.size, 6, none⟩ = some (.int .i64 v.hp) ∧ w'.cell? ⟨w4.heap.size, 7, none⟩ = some (.int .i64 v.hl) ∧ w'.cell? ⟨w4.heap.size, 8, none⟩ = some (.string v.hk) ∧ w'.cell? ⟨w.heap.size, 0, none⟩ = some (.string v.low) ∧ w'.cell? ⟨w.heap.size, 1, none⟩ = some (.string v.high) ∧ w'.cell? ⟨w.heap.size, 2, none⟩ = some (.bool v.unb) ∧ w'.cell? ⟨w.heap.size, 3, none⟩ = some (.int .i64 v.right) ∧ w'.cell? ⟨w.heap.size, 4, none⟩ = some (.slice a v.ents.length c) ∧ w'.cell? ⟨w.heap.size, 5, none⟩ = some (.bool v.held) ∧ w'.cell? ⟨w.heap.size, 6, none⟩ = some (.int .i64 v.hp) ∧ w'.cell? ⟨w.heap.size, 7, none⟩ = some (.int .i64 v.hl) ∧ w'.cell? ⟨w.heap.size, 8, none⟩ = some (.string v.hk)) w' from fun w' hs => ⟨(X6.out.below hs).c0, (X6.out.below hs).c1, (Y4.out.below hs).c0, (Y4.out.below hs).c1, (P2.out.below hs).cell 0, (P2.out.below hs).cell 1, (P2.out.below hs).cell 2, (Q20.out.below hs).cell 0, (Q20.out.below hs).cell 1, (Q20.out.below hs).cell 2, (V8.out.below hs).c0, (V8.out.below hs).c1, (V8.out.below hs).c2, (V8.out.below hs).c3, (V8.out.below hs).c4, (V8.out.below hs).c5, (V8.out.below hs).c6, (V8.out.below hs).c7, (V8.out.below hs).c8, (RV14.out.below hs).c0, (RV14.out.below hs).c1, (RV14.out.below hs).c2, (RV14.out.below hs).c3, (RV14.out.below hs).c4, (RV14.out.below hs).c5, (RV14.out.below hs).c6, (RV14.out.below hs).c7, (RV14.out.below hs).c8⟩)
          have BB := Lib.hid (Below.refl w9.heap.size w9).drew
          have k1 : (ce.1.toList == ce.1.toList) = true := by simp
          have k2 : (ce.2 == ce.2) = true := by simp
          have k3 : (cc == cc) = true := by simp
          have k4 : (ha == ha) = true := by simp
          have k5 : (hb == hb) = true := by simp
          have k6 : (hk3.toList == hk3.toList) = true := by simp
          have k7 : (hc == hc) = true := by simp
          have HA := Lib.hid (has_at v key)
          obtain ⟨hb1, hhb1⟩ : ∃ b, (atE v.ents key).isSome = b := ⟨_, rfl⟩
          have HB1 := Lib.hid hhb1
          rw [hhb1] at HA
          clear hhb1
          obtain ⟨ai, hai⟩ : ∃ b, atI v key = b := ⟨_, rfl⟩
          have AI := Lib.hid hai
          rw [hai] at HA
          clear hai
          have k8 : (hb1 == hb1) = true := by simp
          refine anyH_region (fun w' => w'.cell? ⟨w5.heap.size, 0, none⟩ = some (.string ce.1) ∧ w'.cell? ⟨w5.heap.size, 1, none⟩ = some (.int .i64 ce.2) ∧ w'.cell? ⟨w6.heap.size, 0, none⟩ = some (.string ce.1) ∧ w'.cell? ⟨w6.heap.size, 1, none⟩ = some (.int .i64 ce.2) ∧ w'.cell? ⟨w7.heap.size, 0, none⟩ = some (.int .i64 ha) ∧ w'.cell? ⟨w7.heap.size, 1, none⟩ = some (.int .i64 hb) ∧ w'.cell? ⟨w7.heap.size, 2, none⟩ = some (.string hk3) ∧ w'.cell? ⟨w8.heap.size, 0, none⟩ = some (.int .i64 ha) ∧ w'.cell? ⟨w8.heap.size, 1, none⟩ = some (.int .i64 hb) ∧ w'.cell? ⟨w8.heap.size, 2, none⟩ = some (.string hk3) ∧ w'.cell? ⟨w4.heap.size, 0, none⟩ = some (.string v.low) ∧ w'.cell? ⟨w4.heap.size, 1, none⟩ = some (.string v.high) ∧ w'.cell? ⟨w4.heap.size, 2, none⟩ = some (.bool v.unb) ∧ w'.cell? ⟨w4.heap.size, 3, none⟩ = some (.int .i64 v.right) ∧ w'.cell? ⟨w4.heap.size, 4, none⟩ = some (.slice ga v.ents.length gc) ∧ w'.cell? ⟨w4.heap.size, 5, none⟩ = some (.bool v.held) ∧ w'.cell? ⟨w4.heap.size, 6, none⟩ = some (.int .i64 v.hp) ∧ w'.cell? ⟨w4.heap.size, 7, none⟩ = some (.int .i64 v.hl) ∧ w'.cell? ⟨w4.heap.size, 8, none⟩ = some (.string v.hk) ∧ w'.cell? ⟨w.heap.size, 0, none⟩ = some (.string v.low) ∧ w'.cell? ⟨w.heap.size, 1, none⟩ = some (.string v.high) ∧ w'.cell? ⟨w.heap.size, 2, none⟩ = some (.bool v.unb) ∧ w'.cell? ⟨w.heap.size, 3, none⟩ = some (.int .i64 v.right) ∧ w'.cell? ⟨w.heap.size, 4, none⟩ = some (.slice a v.ents.length c) ∧ w'.cell? ⟨w.heap.size, 5, none⟩ = some (.bool v.held) ∧ w'.cell? ⟨w.heap.size, 6, none⟩ = some (.int .i64 v.hp) ∧ w'.cell? ⟨w.heap.size, 7, none⟩ = some (.int .i64 v.hl) ∧ w'.cell? ⟨w.heap.size, 8, none⟩ = some (.string v.hk)) (by kernel_rfl) ?_
          obtain ⟨q0, hq0⟩ : ∃ W, W = World.drew w9 := ⟨_, rfl⟩
          rw [← hq0] at BB ⊢
          clear hq0
          have SD := Lib.hid (HS.out q0 BB.out)
          refine wpAnyH_take (i := 0) (oi := ⟨some 66, _, _, _, _, _⟩) (v := ?va0) rfl (by as_aux_lemma => kernel_rfl) (by as_aux_lemma => kernel_rfl) (by as_aux_lemma => kernel_rfl) (fun _ _ _ h => h) (Or.inl ⟨by as_aux_lemma => rfl, ?hya0⟩) SD.out ?resta0
          case hya0 => (intro w hSw; go_simp; try (with_reducible rfl))
          simp only [Act.put, List.setIfInBounds_toArray, List.set_cons_zero, List.set_cons_succ]
          refine wpAnyH_take (i := 1) (oi := ⟨some 67, _, _, _, _, _⟩) (v := ?va1) rfl (by as_aux_lemma => kernel_rfl) (by as_aux_lemma => kernel_rfl) (by as_aux_lemma => kernel_rfl) (fun _ _ _ h => h) (Or.inl ⟨by as_aux_lemma => rfl, ?hya1⟩) SD.out ?resta1
          case hya1 => (intro w hSw; go_simp; try (with_reducible rfl))
          simp only [Act.put, List.setIfInBounds_toArray, List.set_cons_zero, List.set_cons_succ]
          refine wpAnyH_take (i := 2) (oi := ⟨some 68, _, _, _, _, _⟩) (v := ?va2) rfl (by as_aux_lemma => kernel_rfl) (by as_aux_lemma => kernel_rfl) (by as_aux_lemma => kernel_rfl) (fun _ _ _ h => h) (Or.inl ⟨by as_aux_lemma => rfl, ?hya2⟩) SD.out ?resta2
          case hya2 => (intro w hSw; go_simp; try (with_reducible rfl))
          simp only [Act.put, List.setIfInBounds_toArray, List.set_cons_zero, List.set_cons_succ]
          refine wpAnyH_take (i := 3) (oi := ⟨some 69, _, _, _, _, _⟩) (v := ?va3) rfl (by as_aux_lemma => kernel_rfl) (by as_aux_lemma => kernel_rfl) (by as_aux_lemma => kernel_rfl) (fun _ _ _ h => h) (Or.inl ⟨by as_aux_lemma => rfl, ?hya3⟩) SD.out ?resta3
          case hya3 => (intro w hSw; go_simp; try (with_reducible rfl))
          simp only [Act.put, List.setIfInBounds_toArray, List.set_cons_zero, List.set_cons_succ]
          refine wpAnyH_take (i := 4) (oi := ⟨some 70, _, _, _, _, _⟩) (v := ?va4) rfl (by as_aux_lemma => kernel_rfl) (by as_aux_lemma => kernel_rfl) (by as_aux_lemma => kernel_rfl) (fun _ _ _ h => h) (Or.inl ⟨by as_aux_lemma => rfl, ?hya4⟩) SD.out ?resta4
          case hya4 => (intro w hSw; go_simp; try (with_reducible rfl))
          simp only [Act.put, List.setIfInBounds_toArray, List.set_cons_zero, List.set_cons_succ]
          refine wpAnyH_take (i := 6) (oi := ⟨some 72, _, _, _, _, _⟩) (v := ?va6) rfl (by as_aux_lemma => kernel_rfl) (by as_aux_lemma => kernel_rfl) (by as_aux_lemma => kernel_rfl) (fun _ _ _ h => h) (Or.inl ⟨by as_aux_lemma => rfl, ?hya6⟩) SD.out ?resta6
          case hya6 => (intro w hSw; go_simp; try (with_reducible rfl))
          simp only [Act.put, List.setIfInBounds_toArray, List.set_cons_zero, List.set_cons_succ]
          refine anyH_one (i := 5) (o := ⟨some 71, _, _, _, _, _⟩) (by as_aux_lemma => kernel_rfl) rfl (fun K hK => ?_)
          rw [if_pos (by as_aux_lemma => rfl)]
          go_simp
          refine (code_any cc _ (GL14.out.below BB.out)).mono ?_
          rintro ev q1 ⟨rfl, hs⟩
          have Bq1 := Lib.hid (BB.out.trans (hs.mono BB.out.size))
          have Sq1 := Lib.hid (HS.out _ Bq1.out)
          clear hs
          refine hK.out _ _ Sq1.out ?_
          clear hK K
          try simp only [Act.put, List.setIfInBounds_toArray, List.set_cons_zero, List.set_cons_succ]
          refine wpAnyH_take (i := 7) (oi := ⟨some 73, _, _, _, _, _⟩) (v := ?vb7) rfl (by as_aux_lemma => kernel_rfl) (by as_aux_lemma => kernel_rfl) (by as_aux_lemma => kernel_rfl) (fun _ _ _ h => h) (Or.inl ⟨by as_aux_lemma => rfl, ?hyb7⟩) Sq1.out ?restb7
          case hyb7 => (intro w hSw; go_simp; try (with_reducible rfl))
          simp only [Act.put, List.setIfInBounds_toArray, List.set_cons_zero, List.set_cons_succ]
          refine wpAnyH_take (i := 8) (oi := ⟨some 74, _, _, _, _, _⟩) (v := ?vb8) rfl (by as_aux_lemma => kernel_rfl) (by as_aux_lemma => kernel_rfl) (by as_aux_lemma => kernel_rfl) (fun _ _ _ h => h) (Or.inl ⟨by as_aux_lemma => rfl, ?hyb8⟩) Sq1.out ?restb8
          case hyb8 => (intro w hSw; go_simp; try (with_reducible rfl))
          simp only [Act.put, List.setIfInBounds_toArray, List.set_cons_zero, List.set_cons_succ]
          refine wpAnyH_take (i := 9) (oi := ⟨some 75, _, _, _, _, _⟩) (v := ?vb9) rfl (by as_aux_lemma => kernel_rfl) (by as_aux_lemma => kernel_rfl) (by as_aux_lemma => kernel_rfl) (fun _ _ _ h => h) (Or.inl ⟨by as_aux_lemma => rfl, ?hyb9⟩) Sq1.out ?restb9
          case hyb9 => (intro w hSw; go_simp; try (with_reducible rfl))
          simp only [Act.put, List.setIfInBounds_toArray, List.set_cons_zero, List.set_cons_succ]
          refine wpAnyH_take (i := 10) (oi := ⟨some 76, _, _, _, _, _⟩) (v := ?vb10) rfl (by as_aux_lemma => kernel_rfl) (by as_aux_lemma => kernel_rfl) (by as_aux_lemma => kernel_rfl) (fun _ _ _ h => h) (Or.inl ⟨by as_aux_lemma => rfl, ?hyb10⟩) Sq1.out ?restb10
          case hyb10 => (intro w hSw; go_simp; try (with_reducible rfl))
          simp only [Act.put, List.setIfInBounds_toArray, List.set_cons_zero, List.set_cons_succ]
          refine wpAnyH_take (i := 11) (oi := ⟨some 77, _, _, _, _, _⟩) (v := ?vb11) rfl (by as_aux_lemma => kernel_rfl) (by as_aux_lemma => kernel_rfl) (by as_aux_lemma => kernel_rfl) (fun _ _ _ h => h) (Or.inl ⟨by as_aux_lemma => rfl, ?hyb11⟩) Sq1.out ?restb11
          case hyb11 => (intro w hSw; go_simp; try (with_reducible rfl))
          simp only [Act.put, List.setIfInBounds_toArray, List.set_cons_zero, List.set_cons_succ]
          refine wpAnyH_take (i := 12) (oi := ⟨some 78, _, _, _, _, _⟩) (v := ?vb12) rfl (by as_aux_lemma => kernel_rfl) (by as_aux_lemma => kernel_rfl) (by as_aux_lemma => kernel_rfl) (fun _ _ _ h => h) (Or.inl ⟨by as_aux_lemma => rfl, ?hyb12⟩) Sq1.out ?restb12
          case hyb12 => (intro w hSw; go_simp; try (with_reducible rfl))
          simp only [Act.put, List.setIfInBounds_toArray, List.set_cons_zero, List.set_cons_succ]
          refine wpAnyH_take (i := 13) (oi := ⟨some 79, _, _, _, _, _⟩) (v := ?vb13) rfl (by as_aux_lemma => kernel_rfl) (by as_aux_lemma => kernel_rfl) (by as_aux_lemma => kernel_rfl) (fun _ _ _ h => h) (Or.inl ⟨by as_aux_lemma => rfl, ?hyb13⟩) Sq1.out ?restb13
          case hyb13 => (intro w hSw; go_simp; try (with_reducible rfl))
          simp only [Act.put, List.setIfInBounds_toArray, List.set_cons_zero, List.set_cons_succ]
          refine wpAnyH_take (i := 14) (oi := ⟨some 80, _, _, _, _, _⟩) (v := ?vb14) rfl (by as_aux_lemma => kernel_rfl) (by as_aux_lemma => kernel_rfl) (by as_aux_lemma => kernel_rfl) (fun _ _ _ h => h) (Or.inl ⟨by as_aux_lemma => rfl, ?hyb14⟩) Sq1.out ?restb14
          case hyb14 => (intro w hSw; go_simp; try (with_reducible rfl))
          simp only [Act.put, List.setIfInBounds_toArray, List.set_cons_zero, List.set_cons_succ]
          refine wpAnyH_take (i := 15) (oi := ⟨some 81, _, _, _, _, _⟩) (v := ?vb15) rfl (by as_aux_lemma => kernel_rfl) (by as_aux_lemma => kernel_rfl) (by as_aux_lemma => kernel_rfl) (fun _ _ _ h => h) (Or.inl ⟨by as_aux_lemma => rfl, ?hyb15⟩) Sq1.out ?restb15
          case hyb15 => (intro w hSw; go_simp; try (with_reducible rfl))
          simp only [Act.put, List.setIfInBounds_toArray, List.set_cons_zero, List.set_cons_succ]
          refine wpAnyH_take (i := 17) (oi := ⟨some 83, _, _, _, _, _⟩) (v := ?vb17) rfl (by as_aux_lemma => kernel_rfl) (by as_aux_lemma => kernel_rfl) (by as_aux_lemma => kernel_rfl) (fun _ _ _ h => h) (Or.inl ⟨by as_aux_lemma => rfl, ?hyb17⟩) Sq1.out ?restb17
          case hyb17 => (intro w hSw; go_simp; try (with_reducible rfl))
          simp only [Act.put, List.setIfInBounds_toArray, List.set_cons_zero, List.set_cons_succ]
          refine anyH_one (i := 16) (o := ⟨some 82, _, _, _, _, _⟩) (by as_aux_lemma => kernel_rfl) rfl (fun K hK => ?_)
          rw [if_pos (by as_aux_lemma => rfl)]
          go_simp
          refine (code_any hc _ (GL14.out.below Bq1.out)).mono ?_
          rintro ev q2 ⟨rfl, hs⟩
          have Bq2 := Lib.hid (Bq1.out.trans (hs.mono Bq1.out.size))
          have Sq2 := Lib.hid (HS.out _ Bq2.out)
          clear hs
          refine hK.out _ _ Sq2.out ?_
          clear hK K
          try simp only [Act.put, List.setIfInBounds_toArray, List.set_cons_zero, List.set_cons_succ]
          refine wpAnyH_take (i := 18) (oi := ⟨some 84, _, _, _, _, _⟩) (v := ?vc18) rfl (by as_aux_lemma => kernel_rfl) (by as_aux_lemma => kernel_rfl) (by as_aux_lemma => kernel_rfl) (fun _ _ _ h => h) (Or.inl ⟨by as_aux_lemma => rfl, ?hyc18⟩) Sq2.out ?restc18
          case hyc18 => (intro w hSw; go_simp; try (with_reducible rfl))
          simp only [Act.put, List.setIfInBounds_toArray, List.set_cons_zero, List.set_cons_succ]
          refine wpAnyH_take (i := 19) (oi := ⟨some 85, _, _, _, _, _⟩) (v := ?vc19) rfl (by as_aux_lemma => kernel_rfl) (by as_aux_lemma => kernel_rfl) (by as_aux_lemma => kernel_rfl) (fun _ _ _ h => h) (Or.inl ⟨by as_aux_lemma => rfl, ?hyc19⟩) Sq2.out ?restc19
          case hyc19 => (intro w hSw; go_simp; try (with_reducible rfl))
          simp only [Act.put, List.setIfInBounds_toArray, List.set_cons_zero, List.set_cons_succ]
          refine wpAnyH_take (i := 20) (oi := ⟨some 86, _, _, _, _, _⟩) (v := ?vc20) rfl (by as_aux_lemma => kernel_rfl) (by as_aux_lemma => kernel_rfl) (by as_aux_lemma => kernel_rfl) (fun _ _ _ h => h) (Or.inl ⟨by as_aux_lemma => rfl, ?hyc20⟩) Sq2.out ?restc20
          case hyc20 => (intro w hSw; go_simp; try (with_reducible rfl))
          simp only [Act.put, List.setIfInBounds_toArray, List.set_cons_zero, List.set_cons_succ]
          refine wpAnyH_take (i := 21) (oi := ⟨some 87, _, _, _, _, _⟩) (v := ?vc21) rfl (by as_aux_lemma => kernel_rfl) (by as_aux_lemma => kernel_rfl) (by as_aux_lemma => kernel_rfl) (fun _ _ _ h => h) (Or.inl ⟨by as_aux_lemma => rfl, ?hyc21⟩) Sq2.out ?restc21
          case hyc21 => (intro w hSw; go_simp; try (with_reducible rfl))
          simp only [Act.put, List.setIfInBounds_toArray, List.set_cons_zero, List.set_cons_succ]
          refine wpAnyH_take (i := 22) (oi := ⟨some 88, _, _, _, _, _⟩) (v := ?vc22) rfl (by as_aux_lemma => kernel_rfl) (by as_aux_lemma => kernel_rfl) (by as_aux_lemma => kernel_rfl) (fun _ _ _ h => h) (Or.inl ⟨by as_aux_lemma => rfl, ?hyc22⟩) Sq2.out ?restc22
          case hyc22 => (intro w hSw; go_simp; try (with_reducible rfl))
          simp only [Act.put, List.setIfInBounds_toArray, List.set_cons_zero, List.set_cons_succ]
          refine wpAnyH_take (i := 24) (oi := ⟨some 90, _, _, _, _, _⟩) (v := ?vc24) rfl (by as_aux_lemma => kernel_rfl) (by as_aux_lemma => kernel_rfl) (by as_aux_lemma => kernel_rfl) (fun _ _ _ h => h) (Or.inl ⟨by as_aux_lemma => rfl, ?hyc24⟩) Sq2.out ?restc24
          case hyc24 => (intro w hSw; go_simp; try (with_reducible rfl))
          simp only [Act.put, List.setIfInBounds_toArray, List.set_cons_zero, List.set_cons_succ]
          refine wpAnyH_take (i := 25) (oi := ⟨some 91, _, _, _, _, _⟩) (v := ?vc25) rfl (by as_aux_lemma => kernel_rfl) (by as_aux_lemma => kernel_rfl) (by as_aux_lemma => kernel_rfl) (fun _ _ _ h => h) (Or.inl ⟨by as_aux_lemma => rfl, ?hyc25⟩) Sq2.out ?restc25
          case hyc25 => (intro w hSw; go_simp; try (with_reducible rfl))
          simp only [Act.put, List.setIfInBounds_toArray, List.set_cons_zero, List.set_cons_succ]
          refine anyH_one (i := 23) (o := ⟨some 89, _, _, _, _, _⟩) (by as_aux_lemma => kernel_rfl) rfl (fun K hK => ?_)
          rw [if_pos (by as_aux_lemma => rfl)]
          go_simp
          refine (C.has _ v (.slice ga v.ents.length gc) key _ (E9.out.below Bq2.out) RI.out (Nat.le_trans LE.out (by decide)) SZ.out HK.out).mono ?_
          rintro ev q3 ⟨rfl, hs⟩
          rw [HB1.out]
          have Bq3 := Lib.hid (Bq2.out.trans (hs.mono Bq2.out.size))
          have Sq3 := Lib.hid (HS.out _ Bq3.out)
          clear hs
          refine hK.out _ _ Sq3.out ?_
          clear hK K
          try simp only [Act.put, List.setIfInBounds_toArray, List.set_cons_zero, List.set_cons_succ]
          refine anyH_one (i := 26) (o := ⟨some 92, _, _, _, _, _⟩) (by as_aux_lemma => kernel_rfl) rfl (fun K hK => ?_)
          rw [if_pos (by as_aux_lemma => rfl)]
          go_simp
          refine (refAt_any v _ key _ (W14.out.below Bq3.out).sv).mono ?_
          rintro ev q4 ⟨rfl, hs⟩
          rw [AI.out]
          have Bq4 := Lib.hid (Bq3.out.trans (hs.mono Bq3.out.size))
          have Sq4 := Lib.hid (HS.out _ Bq4.out)
          clear hs
          refine hK.out _ _ Sq4.out ?_
          clear hK K
          try simp only [Act.put, List.setIfInBounds_toArray, List.set_cons_zero, List.set_cons_succ]
          refine wpAnyH_take (i := 27) (oi := ⟨some 93, _, _, _, _, _⟩) (v := .bool hb1) rfl (by as_aux_lemma => kernel_rfl) (by as_aux_lemma => kernel_rfl) (by as_aux_lemma => kernel_rfl) (fun _ _ _ h => h) (Or.inl ⟨by as_aux_lemma => rfl, ?hyd27⟩) Sq4.out ?restd27
          case hyd27 => (intro w hSw; go_simp; rw [HA.out])
          simp only [Act.put, List.setIfInBounds_toArray, List.set_cons_zero, List.set_cons_succ]
          refine wpAnyH_take (i := 28) (oi := ⟨some 94, _, _, _, _, _⟩) (v := ?vd28) rfl (by as_aux_lemma => kernel_rfl) (by as_aux_lemma => kernel_rfl) (by as_aux_lemma => kernel_rfl) (fun _ _ _ h => h) (Or.inl ⟨by as_aux_lemma => rfl, ?hyd28⟩) Sq4.out ?restd28
          case hyd28 => (intro w hSw; go_simp; try (with_reducible rfl))
          simp only [Act.put, List.setIfInBounds_toArray, List.set_cons_zero, List.set_cons_succ]
          refine wpAnyH_take (i := 29) (oi := ⟨some 95, _, _, _, _, _⟩) (v := ?vd29) rfl (by as_aux_lemma => kernel_rfl) (by as_aux_lemma => kernel_rfl) (by as_aux_lemma => kernel_rfl) (fun _ _ _ h => h) (Or.inl ⟨by as_aux_lemma => rfl, ?hyd29⟩) Sq4.out ?restd29
          case hyd29 => (intro w hSw; go_simp; try (with_reducible rfl))
          simp only [Act.put, List.setIfInBounds_toArray, List.set_cons_zero, List.set_cons_succ]
          refine wpAnyH_take (i := 30) (oi := ⟨some 96, _, _, _, _, _⟩) (v := ?vd30) rfl (by as_aux_lemma => kernel_rfl) (by as_aux_lemma => kernel_rfl) (by as_aux_lemma => kernel_rfl) (fun _ _ _ h => h) (Or.inl ⟨by as_aux_lemma => rfl, ?hyd30⟩) Sq4.out ?restd30
          case hyd30 => (intro w hSw; go_simp; try (with_reducible rfl))
          simp only [Act.put, List.setIfInBounds_toArray, List.set_cons_zero, List.set_cons_succ]
          refine anyH_one (i := 31) (o := ⟨some 97, _, _, _, _, _⟩) (by as_aux_lemma => kernel_rfl) rfl (fun K hK => ?_)
          rw [if_pos (by as_aux_lemma => rfl)]
          go_simp
          refine (awakeI C _).mono ?_
          rintro ev q5 ⟨rfl, hs⟩
          have Bq5 := Lib.hid (Bq4.out.trans (hs.mono Bq4.out.size))
          have Sq5 := Lib.hid (HS.out _ Bq5.out)
          clear hs
          refine hK.out _ _ Sq5.out ?_
          clear hK K
          try simp only [Act.put, List.setIfInBounds_toArray, List.set_cons_zero, List.set_cons_succ]
          refine wpAnyH_take (i := 32) (oi := ⟨some 98, _, _, _, _, _⟩) (v := ?ve32) rfl (by as_aux_lemma => kernel_rfl) (by as_aux_lemma => kernel_rfl) (by as_aux_lemma => kernel_rfl) (fun _ _ _ h => h) (Or.inl ⟨by as_aux_lemma => rfl, ?hye32⟩) Sq5.out ?reste32
          case hye32 => (intro w hSw; go_simp; try (with_reducible rfl))
          simp only [Act.put, List.setIfInBounds_toArray, List.set_cons_zero, List.set_cons_succ]
          refine anyH_one (i := 33) (o := ⟨some 6, _, _, _, _, _⟩) (by as_aux_lemma => kernel_rfl) rfl (fun K hK => ?_)
          rw [if_pos (by as_aux_lemma => rfl)]
          go_simp
          refine hK.out _ _ Sq5.out ?_
          clear hK K
          try simp only [Act.put, List.setIfInBounds_toArray, List.set_cons_zero, List.set_cons_succ]
          refine wpAnyH_done (by as_aux_lemma => kernel_rfl) ?_ _
          go_wp2
          go_ret
          exact ⟨rfl, B14.out.trans (Bq5.out.mono B14.out.size)⟩
      · have r_0 := RV3.out.c0
        have r_1 := RV3.out.c1
        have r_2 := RV3.out.c2
        have r_3 := RV3.out.c3
        have r_4 := RV3.out.c4
        have r_5 := RV3.out.c5
        have r_6 := RV3.out.c6
        have r_7 := RV3.out.c7
        have r_8 := RV3.out.c8
        go_wp2_with fail
        refine (awakeI C _).mono ?_
        rintro ev w3 ⟨rfl, hs⟩
        clear r_0 r_1 r_2 r_3 r_4 r_5 r_6 r_7 r_8
        have B4 := Lib.hid (B3.out.trans (hs.mono B3.out.size))
        have W4 := Lib.hid (W3.out.below hs)
        have GL4 := Lib.hid (GL3.out.below hs)
        have RV4 := Lib.hid (RV3.out.below hs)
        clear B3 W3 GL3 RV3
        clear hs
        go_wp2
        go_ret
        exact ⟨rfl, B4.out⟩
    · go_wp2_with fail
      refine (awakeI C _).mono ?_
      rintro ev w3 ⟨rfl, hs⟩
      have B4 := Lib.hid (B3.out.trans (hs.mono B3.out.size))
      have W4 := Lib.hid (W3.out.below hs)
      have GL4 := Lib.hid (GL3.out.below hs)
      have RV4 := Lib.hid (RV3.out.below hs)
      clear B3 W3 GL3 RV3
      clear hs
      go_wp2
      go_ret
      exact ⟨rfl, B4.out⟩
end Go.Proofs.YtkkmfacngmginaaDoor
