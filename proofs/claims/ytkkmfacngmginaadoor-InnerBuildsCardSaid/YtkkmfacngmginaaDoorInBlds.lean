/- The walk of the law InnerBuilds, out of package inner's contracts. -/
import Derived.Test.YtkkmfacngmginaaDoorInBldB
import Derived.Test.YtkkmfacngmginaaDoorInC
namespace Go.Proofs.YtkkmfacngmginaaDoor
open Go.RowKit

theorem vb_range {w : World} {b : Nat} {v : IvD} {en : Value} (h : VB b v en w) : w.rangeAt b 0 (ivCells v en) := fun j u hj => by
  rw [Nat.zero_add]
  unfold ivCells at hj
  match j, hj with
  | 0, hj => obtain rfl := Option.some.inj hj; exact h.c0
  | 1, hj => obtain rfl := Option.some.inj hj; exact h.c1
  | 2, hj => obtain rfl := Option.some.inj hj; exact h.c2
  | 3, hj => obtain rfl := Option.some.inj hj; exact h.c3
  | 4, hj => obtain rfl := Option.some.inj hj; exact h.c4
  | 5, hj => obtain rfl := Option.some.inj hj; exact h.c5
  | 6, hj => obtain rfl := Option.some.inj hj; exact h.c6
  | 7, hj => obtain rfl := Option.some.inj hj; exact h.c7
  | 8, hj => obtain rfl := Option.some.inj hj; exact h.c8
  | k + 9, hj => cases hj
theorem codeSplit (C : InC) (base : Nat) (v : IvD) (en : Value) (p : Int) (w : World) (ho : OwnS lEnt base w en v.ents) (hl : v.ents.length ≤ 1000) (hz : SzI v) :
    Calls Tryd.prog 18 #[ivVal v en, .int .i64 p] w fun ev w' => ∃ c1 c2, ev = .returned (.tuple #[.agg c1.toArray, .agg c2.toArray, errV (whyI v)]) ∧ RecA w' c1 (splA v p) ∧ RecA w' c2 (splB v) ∧ Below w.heap.size w w' := by
  by_cases hw : whyI v = 0
  · unfold splA splB
    rw [if_pos hw, if_pos hw, errV_zero hw]
    refine (C.split base v en p w ho hl hz hw).mono ?_
    rintro ev w' ⟨a, b, rfl, ha, hb, hs⟩
    obtain ⟨c1, rfl, h1⟩ := RecA.of_recO ha
    obtain ⟨c2, rfl, h2⟩ := RecA.of_recO hb
    exact ⟨_, _, rfl, h1, h2, hs⟩
  · unfold splA splB
    rw [if_neg hw, if_neg hw, errV_code hw]
    refine (C.splitNo base v en p w ho hl hz hw).mono ?_
    rintro ev w' ⟨a, b, rfl, ha, hb, hs⟩
    obtain ⟨c1, rfl, h1⟩ := RecA.of_recO ha
    obtain ⟨c2, rfl, h2⟩ := RecA.of_recO hb
    exact ⟨_, _, rfl, h1, h2, hs⟩
theorem codeGrow (C : InC) (base : Nat) (v : IvD) (en : Value) (l r : Int) (w : World) (ho : OwnS lEnt base w en v.ents) (hl : v.ents.length ≤ 1000) (hz : SzI v) :
    Calls Tryd.prog 20 #[ivVal v en, .int .i64 l, .int .i64 r] w fun ev w' => ∃ c1 c2 c3, ev = .returned (.tuple #[.agg c1.toArray, .agg c2.toArray, .agg c3.toArray, errV (whyI v)]) ∧ RecA w' c1 (groA v r) ∧ RecA w' c2 (splB v) ∧ RecA w' c3 (groT v l r) ∧ Below w.heap.size w w' := by
  by_cases hw : whyI v = 0
  · unfold groA splB groT
    rw [if_pos hw, if_pos hw, if_pos hw, errV_zero hw]
    refine (C.grow base v en l r w ho hl hz hw).mono ?_
    rintro ev w' ⟨a, b, t, rfl, ha, hb, ht, hs⟩
    obtain ⟨c1, rfl, h1⟩ := RecA.of_recO ha
    obtain ⟨c2, rfl, h2⟩ := RecA.of_recO hb
    obtain ⟨c3, rfl, h3⟩ := RecA.of_recO ht
    exact ⟨_, _, _, rfl, h1, h2, h3, hs⟩
  · unfold groA splB groT
    rw [if_neg hw, if_neg hw, if_neg hw, errV_code hw]
    refine (C.growNo base v en l r w ho hl hz hw).mono ?_
    rintro ev w' ⟨a, b, t, rfl, ha, hb, ht, hs⟩
    obtain ⟨c1, rfl, h1⟩ := RecA.of_recO ha
    obtain ⟨c2, rfl, h2⟩ := RecA.of_recO hb
    obtain ⟨c3, rfl, h3⟩ := RecA.of_recO ht
    exact ⟨_, _, _, rfl, h1, h2, h3, hs⟩
set_option maxRecDepth 100000 in
set_option maxHeartbeats 16000000 in
theorem lawBuilds (C : InC) (v : IvD) (a : Option Addr) (c : Nat) (left right : Int) (w : World) (hv : ViewW w v a c) (hg : Ea.Glob w) :
    Calls Tryd.prog 4 #[ivVal v (.slice a v.ents.length c), .int .i64 left, .int .i64 right] w fun ev w' => ev = .returned (.bool true) ∧ Below w.heap.size w w' := by
  have hnot : ∀ (x : Bool) (w : World), (Op.unary .not (.bool x)).run Tryd.prog w = .ok (.bool (!x)) w := fun _ _ => rfl
  have b0 := alloc_below0 w (ivObjR v (.slice a v.ents.length c))
  have B0 := Lib.hid b0
  have W0 := Lib.hid (hv.below b0)
  have GL0 := Lib.hid (hg.below b0)
  have RV0 := Lib.hid (VB.newR v (.slice a v.ents.length c) w)
  have SZ := Lib.hid hv.sz
  clear b0 hv hg
  unfold ivObjR at B0 W0 GL0 RV0
  unfold ivVal
  go_enter Tryd.func4, Tryd.ntmps4
  go_wp2_with fail
  refine (refBase_any v a v.ents.length c _).mono ?_
  rintro ev w1 ⟨rfl, hs⟩
  unfold recVal
  simp only [baseS]
  have B1 := Lib.hid (B0.out.trans (hs.mono B0.out.size))
  have W1 := Lib.hid (W0.out.below hs)
  have GL1 := Lib.hid (GL0.out.below hs)
  have RV1 := Lib.hid (RV0.out.below hs)
  clear B0 W0 GL0 RV0
  clear hs
  have hs := alloc_below0 w1 (.cells (baseD1 v a c).cells.toArray 32)
  have CH := Lib.hid (W1.out.chain (n := w1.heap.size) rfl)
  have B2 := Lib.hid (B1.out.trans (hs.mono B1.out.size))
  have W2 := Lib.hid (W1.out.below hs)
  have GL2 := Lib.hid (GL1.out.below hs)
  have RV2 := Lib.hid (RV1.out.below hs)
  clear B1 W1 GL1 RV1
  clear hs
  go_wp2_with fail
  refine (fewI_any _ [baseD1 v a c] _ CH.out).mono ?_
  rintro ev w2 ⟨b, rfl, hok, hs⟩
  have B3 := Lib.hid (B2.out.trans (hs.mono B2.out.size))
  have W3 := Lib.hid (W2.out.below hs)
  have GL3 := Lib.hid (GL2.out.below hs)
  have RV3 := Lib.hid (RV2.out.below hs)
  clear B2 W2 GL2 RV2
  clear hs CH
  cases b with
  | false =>
    clear hok
    go_wp2_with fail
    refine (awakeI C _).mono ?_
    rintro ev w3 ⟨rfl, hs⟩
    have B4 := Lib.hid (B3.out.trans (hs.mono B3.out.size))
    have W4 := Lib.hid (W3.out.below hs)
    have GL4 := Lib.hid (GL3.out.below hs)
    have RV4 := Lib.hid (RV3.out.below hs)
    clear B3 W3 GL3 RV3
    clear hs
    go_wp2
    go_ret
    exact ⟨rfl, B4.out⟩
  | true =>
    have LE := Lib.hid (show v.ents.length ≤ 100 from (hok rfl).2.2 (baseD1 v a c) (by simp))
    clear hok
    have r_0 := RV3.out.c0
    have r_1 := RV3.out.c1
    have r_2 := RV3.out.c2
    have r_3 := RV3.out.c3
    have r_4 := RV3.out.c4
    have r_5 := RV3.out.c5
    have r_6 := RV3.out.c6
    have r_7 := RV3.out.c7
    have r_8 := RV3.out.c8
    by_cases h200 : v.hk.size ≤ 100
    · go_wp2_with fail
      refine (given_any v _ _ W3.out.sv (Nat.le_trans LE.out (by decide))).mono ?_
      rintro ev w3 ⟨en, rfl, ho, hs⟩
      obtain ⟨ga, gc, rfl, -, -⟩ := ho.sv.lenform
      clear r_0 r_1 r_2 r_3 r_4 r_5 r_6 r_7 r_8
      have B4 := Lib.hid (B3.out.trans (hs.mono B3.out.size))
      have W4 := Lib.hid (W3.out.below hs)
      have GL4 := Lib.hid (GL3.out.below hs)
      have RV4 := Lib.hid (RV3.out.below hs)
      clear B3 W3 GL3 RV3
      have E0 := Lib.hid (ho)
      clear hs ho
      unfold ivVal
      have hs := alloc_below0 w3 (ivObj v (.slice ga v.ents.length gc))
      have B5 := Lib.hid (B4.out.trans (hs.mono B4.out.size))
      have W5 := Lib.hid (W4.out.below hs)
      have GL5 := Lib.hid (GL4.out.below hs)
      have RV5 := Lib.hid (RV4.out.below hs)
      have E1 := Lib.hid (E0.out.below hs)
      clear B4 W4 GL4 RV4 E0
      have V0 := Lib.hid (HB.new (ivObj v (.slice ga v.ents.length gc)) w3)
      clear hs
      unfold ivObj at B5 W5 GL5 RV5 E1 V0
      obtain ⟨y, hy⟩ : ∃ y, whyI v = y := ⟨_, rfl⟩
      have Y := Lib.hid hy
      clear hy
      have u_0 := V0.out.cell 0
      have u_1 := V0.out.cell 1
      have u_2 := V0.out.cell 2
      have u_3 := V0.out.cell 3
      have u_4 := V0.out.cell 4
      have u_5 := V0.out.cell 5
      have u_6 := V0.out.cell 6
      have u_7 := V0.out.cell 7
      have u_8 := V0.out.cell 8
      simp at u_0 u_1 u_2 u_3 u_4 u_5 u_6 u_7 u_8
      go_wp2_with fail
      refine (codeSplit C _ v (.slice ga v.ents.length gc) right _ E1.out (Nat.le_trans LE.out (by decide)) SZ.out).mono ?_
      rintro ev w4 ⟨c1, c2, rfl, ha, hb, hs⟩
      rw [Y.out]
      clear u_0 u_1 u_2 u_3 u_4 u_5 u_6 u_7 u_8
      have B6 := Lib.hid (B5.out.trans (hs.mono B5.out.size))
      have W6 := Lib.hid (W5.out.below hs)
      have GL6 := Lib.hid (GL5.out.below hs)
      have RV6 := Lib.hid (RV5.out.below hs)
      have E2 := Lib.hid (E1.out.below hs)
      have V1 := Lib.hid (V0.out.below hs)
      clear B5 W5 GL5 RV5 E1 V0
      have A10 := Lib.hid (ha)
      have A20 := Lib.hid (hb)
      clear hs ha hb
      obtain ⟨gw, hgw⟩ : ∃ W, W = (World.alloc (World.alloc w4 (.cells #[.int .i64 0, .string ⟨#[]⟩, .string ⟨#[]⟩, .bool false, .int .i64 0, .slice none 0 0, .slice none 0 0, .string ⟨#[]⟩, .string ⟨#[]⟩, .int .i64 0, .int .i64 0, .int .i64 0, .string ⟨#[]⟩, .int .i64 0, .int .i64 0] 32)) (.cells #[.int .i64 0, .string ⟨#[]⟩, .string ⟨#[]⟩, .bool false, .int .i64 0, .slice none 0 0, .slice none 0 0, .string ⟨#[]⟩, .string ⟨#[]⟩, .int .i64 0, .int .i64 0, .int .i64 0, .string ⟨#[]⟩, .int .i64 0, .int .i64 0] 32)) := ⟨_, rfl⟩
      have LD := Lib.hid (laid2 (w := w4) (gw := gw) hgw A10.out.len A20.out.len)
      have z0 := A10.out.info
      have y0 := A10.out.one
      have z1 := A20.out.info
      have y1 := A20.out.one
      have hs := LD.out.2.2.2.2
      have B7 := Lib.hid (B6.out.trans (hs.mono B6.out.size))
      have W7 := Lib.hid (W6.out.below hs)
      have GL7 := Lib.hid (GL6.out.below hs)
      have RV7 := Lib.hid (RV6.out.below hs)
      have E3 := Lib.hid (E2.out.below hs)
      have V2 := Lib.hid (V1.out.below hs)
      have A11 := Lib.hid (A10.out.below hs)
      have A21 := Lib.hid (A20.out.below hs)
      clear B6 W6 GL6 RV6 E2 V1 A10 A20
      clear hs
      have P10 := Lib.hid (LD.out.2.2.1)
      have P20 := Lib.hid (LD.out.2.2.2.1)
      have o_0 := RV7.out.c0
      have o_1 := RV7.out.c1
      have o_2 := RV7.out.c2
      have o_3 := RV7.out.c3
      have o_4 := RV7.out.c4
      have o_5 := RV7.out.c5
      have o_6 := RV7.out.c6
      have o_7 := RV7.out.c7
      have o_8 := RV7.out.c8
      go_wp2_with (first | (rw [← hgw]; refine wpList_store_mid rfl 32 (.tmp 8) (.tmp 41) rfl (w4.heap.size) 0 c1.toArray rfl rfl ?_ z0 y0 ?_; exact LD.out.1) | (refine wpList_store_mid rfl 32 (.tmp 9) (.tmp 42) rfl (w4.heap.size + 1) 0 c2.toArray rfl rfl ?_ z1 y1 ?_; exact LD.out.2.1; clear LD z0 y0 z1 y1; generalize hG : World.setCells (World.setCells _ _ _ _) _ _ _ = x1 at *; clear hG hgw))
      refine (refSplit_any v a c right _ W7.out).mono ?_
      rintro ev w5 ⟨d1, d2, rfl, hd, hs⟩
      rw [Y.out]
      clear o_0 o_1 o_2 o_3 o_4 o_5 o_6 o_7 o_8
      have B8 := Lib.hid (B7.out.trans (hs.mono B7.out.size))
      have W8 := Lib.hid (W7.out.below hs)
      have GL8 := Lib.hid (GL7.out.below hs)
      have RV8 := Lib.hid (RV7.out.below hs)
      have E4 := Lib.hid (E3.out.below hs)
      have V3 := Lib.hid (V2.out.below hs)
      have A12 := Lib.hid (A11.out.below hs)
      have A22 := Lib.hid (A21.out.below hs)
      have P11 := Lib.hid (P10.out.below hs)
      have P21 := Lib.hid (P20.out.below hs)
      clear B7 W7 GL7 RV7 E3 V2 A11 A21 P10 P20
      clear hs
      have D10 := Lib.hid ((hd _ W8.out.sv).1)
      have D20 := Lib.hid ((hd _ W8.out.sv).2)
      clear hd
      obtain ⟨gw, hgw⟩ : ∃ W, W = (World.alloc (World.alloc w5 (.cells #[.int .i64 0, .string ⟨#[]⟩, .string ⟨#[]⟩, .bool false, .int .i64 0, .slice none 0 0, .slice none 0 0, .string ⟨#[]⟩, .string ⟨#[]⟩, .int .i64 0, .int .i64 0, .int .i64 0, .string ⟨#[]⟩, .int .i64 0, .int .i64 0] 32)) (.cells #[.int .i64 0, .string ⟨#[]⟩, .string ⟨#[]⟩, .bool false, .int .i64 0, .slice none 0 0, .slice none 0 0, .string ⟨#[]⟩, .string ⟨#[]⟩, .int .i64 0, .int .i64 0, .int .i64 0, .string ⟨#[]⟩, .int .i64 0, .int .i64 0] 32)) := ⟨_, rfl⟩
      have LD := Lib.hid (laid2 (w := w5) (gw := gw) hgw D10.out.len D20.out.len)
      have z0 := D10.out.info
      have y0 := D10.out.one
      have z1 := D20.out.info
      have y1 := D20.out.one
      have hs := LD.out.2.2.2.2
      have B9 := Lib.hid (B8.out.trans (hs.mono B8.out.size))
      have W9 := Lib.hid (W8.out.below hs)
      have GL9 := Lib.hid (GL8.out.below hs)
      have RV9 := Lib.hid (RV8.out.below hs)
      have E5 := Lib.hid (E4.out.below hs)
      have V4 := Lib.hid (V3.out.below hs)
      have A13 := Lib.hid (A12.out.below hs)
      have A23 := Lib.hid (A22.out.below hs)
      have P12 := Lib.hid (P11.out.below hs)
      have P22 := Lib.hid (P21.out.below hs)
      have D11 := Lib.hid (D10.out.below hs)
      have D21 := Lib.hid (D20.out.below hs)
      clear B8 W8 GL8 RV8 E4 V3 A12 A22 P11 P21 D10 D20
      clear hs
      have Q10 := Lib.hid (LD.out.2.2.1)
      have Q20 := Lib.hid (LD.out.2.2.2.1)
      have u_0 := V4.out.cell 0
      have u_1 := V4.out.cell 1
      have u_2 := V4.out.cell 2
      have u_3 := V4.out.cell 3
      have u_4 := V4.out.cell 4
      have u_5 := V4.out.cell 5
      have u_6 := V4.out.cell 6
      have u_7 := V4.out.cell 7
      have u_8 := V4.out.cell 8
      simp at u_0 u_1 u_2 u_3 u_4 u_5 u_6 u_7 u_8
      go_wp2_with (first | (rw [← hgw]; refine wpList_store_mid rfl 32 (.tmp 11) (.tmp 48) rfl (w5.heap.size) 0 d1.toArray rfl rfl ?_ z0 y0 ?_; exact LD.out.1) | (refine wpList_store_mid rfl 32 (.tmp 12) (.tmp 49) rfl (w5.heap.size + 1) 0 d2.toArray rfl rfl ?_ z1 y1 ?_; exact LD.out.2.1; clear LD z0 y0 z1 y1; generalize hG : World.setCells (World.setCells _ _ _ _) _ _ _ = x2 at *; clear hG hgw))
      refine (codeGrow C _ v (.slice ga v.ents.length gc) left right _ E5.out (Nat.le_trans LE.out (by decide)) SZ.out).mono ?_
      rintro ev w6 ⟨e1, e2, e3, rfl, ha, hb, hc, hs⟩
      rw [Y.out]
      clear u_0 u_1 u_2 u_3 u_4 u_5 u_6 u_7 u_8
      have B10 := Lib.hid (B9.out.trans (hs.mono B9.out.size))
      have W10 := Lib.hid (W9.out.below hs)
      have GL10 := Lib.hid (GL9.out.below hs)
      have RV10 := Lib.hid (RV9.out.below hs)
      have E6 := Lib.hid (E5.out.below hs)
      have V5 := Lib.hid (V4.out.below hs)
      have A14 := Lib.hid (A13.out.below hs)
      have A24 := Lib.hid (A23.out.below hs)
      have P13 := Lib.hid (P12.out.below hs)
      have P23 := Lib.hid (P22.out.below hs)
      have D12 := Lib.hid (D11.out.below hs)
      have D22 := Lib.hid (D21.out.below hs)
      have Q11 := Lib.hid (Q10.out.below hs)
      have Q21 := Lib.hid (Q20.out.below hs)
      clear B9 W9 GL9 RV9 E5 V4 A13 A23 P12 P22 D11 D21 Q10 Q20
      have E10 := Lib.hid (ha)
      have E20 := Lib.hid (hb)
      have E30 := Lib.hid (hc)
      clear hs ha hb hc
      obtain ⟨gw, hgw⟩ : ∃ W, W = (World.alloc (World.alloc (World.alloc w6 (.cells #[.int .i64 0, .string ⟨#[]⟩, .string ⟨#[]⟩, .bool false, .int .i64 0, .slice none 0 0, .slice none 0 0, .string ⟨#[]⟩, .string ⟨#[]⟩, .int .i64 0, .int .i64 0, .int .i64 0, .string ⟨#[]⟩, .int .i64 0, .int .i64 0] 32)) (.cells #[.int .i64 0, .string ⟨#[]⟩, .string ⟨#[]⟩, .bool false, .int .i64 0, .slice none 0 0, .slice none 0 0, .string ⟨#[]⟩, .string ⟨#[]⟩, .int .i64 0, .int .i64 0, .int .i64 0, .string ⟨#[]⟩, .int .i64 0, .int .i64 0] 32)) (.cells #[.int .i64 0, .string ⟨#[]⟩, .string ⟨#[]⟩, .bool false, .int .i64 0, .slice none 0 0, .slice none 0 0, .string ⟨#[]⟩, .string ⟨#[]⟩, .int .i64 0, .int .i64 0, .int .i64 0, .string ⟨#[]⟩, .int .i64 0, .int .i64 0] 32)) := ⟨_, rfl⟩
      have LD := Lib.hid (laid3 (w := w6) (gw := gw) hgw E10.out.len E20.out.len E30.out.len)
      have z0 := E10.out.info
      have y0 := E10.out.one
      have z1 := E20.out.info
      have y1 := E20.out.one
      have z2 := E30.out.info
      have y2 := E30.out.one
      have hs := LD.out.2.2.2.2.2.2
      have B11 := Lib.hid (B10.out.trans (hs.mono B10.out.size))
      have W11 := Lib.hid (W10.out.below hs)
      have GL11 := Lib.hid (GL10.out.below hs)
      have RV11 := Lib.hid (RV10.out.below hs)
      have E7 := Lib.hid (E6.out.below hs)
      have V6 := Lib.hid (V5.out.below hs)
      have A15 := Lib.hid (A14.out.below hs)
      have A25 := Lib.hid (A24.out.below hs)
      have P14 := Lib.hid (P13.out.below hs)
      have P24 := Lib.hid (P23.out.below hs)
      have D13 := Lib.hid (D12.out.below hs)
      have D23 := Lib.hid (D22.out.below hs)
      have Q12 := Lib.hid (Q11.out.below hs)
      have Q22 := Lib.hid (Q21.out.below hs)
      have E11 := Lib.hid (E10.out.below hs)
      have E21 := Lib.hid (E20.out.below hs)
      have E31 := Lib.hid (E30.out.below hs)
      clear B10 W10 GL10 RV10 E6 V5 A14 A24 P13 P23 D12 D22 Q11 Q21 E10 E20 E30
      clear hs
      have S10 := Lib.hid (LD.out.2.2.2.1)
      have S20 := Lib.hid (LD.out.2.2.2.2.1)
      have S30 := Lib.hid (LD.out.2.2.2.2.2.1)
      have o_0 := RV11.out.c0
      have o_1 := RV11.out.c1
      have o_2 := RV11.out.c2
      have o_3 := RV11.out.c3
      have o_4 := RV11.out.c4
      have o_5 := RV11.out.c5
      have o_6 := RV11.out.c6
      have o_7 := RV11.out.c7
      have o_8 := RV11.out.c8
      go_wp2_with (first | (rw [← hgw]; refine wpList_store_mid rfl 32 (.tmp 14) (.tmp 56) rfl (w6.heap.size) 0 e1.toArray rfl rfl ?_ z0 y0 ?_; exact LD.out.1) | (refine wpList_store_mid rfl 32 (.tmp 15) (.tmp 57) rfl (w6.heap.size + 1) 0 e2.toArray rfl rfl ?_ z1 y1 ?_; exact LD.out.2.1) | (refine wpList_store_mid rfl 32 (.tmp 16) (.tmp 58) rfl (w6.heap.size + 1 + 1) 0 e3.toArray rfl rfl ?_ z2 y2 ?_; exact LD.out.2.2.1; clear LD z0 y0 z1 y1 z2 y2; generalize hG : World.setCells (World.setCells (World.setCells _ _ _ _) _ _ _) _ _ _ = x3 at *; clear hG hgw))
      refine (refGrow_any v a c left right _ W11.out).mono ?_
      rintro ev w7 ⟨f1, f2, f3, rfl, ha, hb, hc, hs⟩
      rw [Y.out]
      clear o_0 o_1 o_2 o_3 o_4 o_5 o_6 o_7 o_8
      have B12 := Lib.hid (B11.out.trans (hs.mono B11.out.size))
      have W12 := Lib.hid (W11.out.below hs)
      have GL12 := Lib.hid (GL11.out.below hs)
      have RV12 := Lib.hid (RV11.out.below hs)
      have E8 := Lib.hid (E7.out.below hs)
      have V7 := Lib.hid (V6.out.below hs)
      have A16 := Lib.hid (A15.out.below hs)
      have A26 := Lib.hid (A25.out.below hs)
      have P15 := Lib.hid (P14.out.below hs)
      have P25 := Lib.hid (P24.out.below hs)
      have D14 := Lib.hid (D13.out.below hs)
      have D24 := Lib.hid (D23.out.below hs)
      have Q13 := Lib.hid (Q12.out.below hs)
      have Q23 := Lib.hid (Q22.out.below hs)
      have E12 := Lib.hid (E11.out.below hs)
      have E22 := Lib.hid (E21.out.below hs)
      have E32 := Lib.hid (E31.out.below hs)
      have S11 := Lib.hid (S10.out.below hs)
      have S21 := Lib.hid (S20.out.below hs)
      have S31 := Lib.hid (S30.out.below hs)
      clear B11 W11 GL11 RV11 E7 V6 A15 A25 P14 P24 D13 D23 Q12 Q22 E11 E21 E31 S10 S20 S30
      have F10 := Lib.hid (ha)
      have F20 := Lib.hid (hb)
      have F30 := Lib.hid (hc)
      clear hs ha hb hc
      obtain ⟨gw, hgw⟩ : ∃ W, W = (World.alloc (World.alloc (World.alloc w7 (.cells #[.int .i64 0, .string ⟨#[]⟩, .string ⟨#[]⟩, .bool false, .int .i64 0, .slice none 0 0, .slice none 0 0, .string ⟨#[]⟩, .string ⟨#[]⟩, .int .i64 0, .int .i64 0, .int .i64 0, .string ⟨#[]⟩, .int .i64 0, .int .i64 0] 32)) (.cells #[.int .i64 0, .string ⟨#[]⟩, .string ⟨#[]⟩, .bool false, .int .i64 0, .slice none 0 0, .slice none 0 0, .string ⟨#[]⟩, .string ⟨#[]⟩, .int .i64 0, .int .i64 0, .int .i64 0, .string ⟨#[]⟩, .int .i64 0, .int .i64 0] 32)) (.cells #[.int .i64 0, .string ⟨#[]⟩, .string ⟨#[]⟩, .bool false, .int .i64 0, .slice none 0 0, .slice none 0 0, .string ⟨#[]⟩, .string ⟨#[]⟩, .int .i64 0, .int .i64 0, .int .i64 0, .string ⟨#[]⟩, .int .i64 0, .int .i64 0] 32)) := ⟨_, rfl⟩
      have LD := Lib.hid (laid3 (w := w7) (gw := gw) hgw F10.out.len F20.out.len F30.out.len)
      have z0 := F10.out.info
      have y0 := F10.out.one
      have z1 := F20.out.info
      have y1 := F20.out.one
      have z2 := F30.out.info
      have y2 := F30.out.one
      have hs := LD.out.2.2.2.2.2.2
      have B13 := Lib.hid (B12.out.trans (hs.mono B12.out.size))
      have W13 := Lib.hid (W12.out.below hs)
      have GL13 := Lib.hid (GL12.out.below hs)
      have RV13 := Lib.hid (RV12.out.below hs)
      have E9 := Lib.hid (E8.out.below hs)
      have V8 := Lib.hid (V7.out.below hs)
      have A17 := Lib.hid (A16.out.below hs)
      have A27 := Lib.hid (A26.out.below hs)
      have P16 := Lib.hid (P15.out.below hs)
      have P26 := Lib.hid (P25.out.below hs)
      have D15 := Lib.hid (D14.out.below hs)
      have D25 := Lib.hid (D24.out.below hs)
      have Q14 := Lib.hid (Q13.out.below hs)
      have Q24 := Lib.hid (Q23.out.below hs)
      have E13 := Lib.hid (E12.out.below hs)
      have E23 := Lib.hid (E22.out.below hs)
      have E33 := Lib.hid (E32.out.below hs)
      have S12 := Lib.hid (S11.out.below hs)
      have S22 := Lib.hid (S21.out.below hs)
      have S32 := Lib.hid (S31.out.below hs)
      have F11 := Lib.hid (F10.out.below hs)
      have F21 := Lib.hid (F20.out.below hs)
      have F31 := Lib.hid (F30.out.below hs)
      clear B12 W12 GL12 RV12 E8 V7 A16 A26 P15 P25 D14 D24 Q13 Q23 E12 E22 E32 S11 S21 S31 F10 F20 F30
      clear hs
      have T10 := Lib.hid (LD.out.2.2.2.1)
      have T20 := Lib.hid (LD.out.2.2.2.2.1)
      have T30 := Lib.hid (LD.out.2.2.2.2.2.1)
      go_wp2_with (first | (rw [← hgw]; refine wpList_store_mid rfl 32 (.tmp 18) (.tmp 65) rfl (w7.heap.size) 0 f1.toArray rfl rfl ?_ z0 y0 ?_; exact LD.out.1) | (refine wpList_store_mid rfl 32 (.tmp 19) (.tmp 66) rfl (w7.heap.size + 1) 0 f2.toArray rfl rfl ?_ z1 y1 ?_; exact LD.out.2.1) | (refine wpList_store_mid rfl 32 (.tmp 20) (.tmp 67) rfl (w7.heap.size + 1 + 1) 0 f3.toArray rfl rfl ?_ z2 y2 ?_; exact LD.out.2.2.1; clear LD z0 y0 z1 y1 z2 y2; generalize hG : World.setCells (World.setCells (World.setCells _ _ _ _) _ _ _) _ _ _ = x4 at *; clear hG hgw))
      have HS := Lib.hid (show ∀ w', Below x4.heap.size x4 w' → (fun w' => w'.rangeAt (w4.heap.size) 0 c1 ∧ w'.rangeAt (w4.heap.size + 1) 0 c2 ∧ w'.rangeAt (w5.heap.size) 0 d1 ∧ w'.rangeAt (w5.heap.size + 1) 0 d2 ∧ w'.rangeAt (w6.heap.size) 0 e1 ∧ w'.rangeAt (w6.heap.size + 1) 0 e2 ∧ w'.rangeAt (w6.heap.size + 1 + 1) 0 e3 ∧ w'.rangeAt (w7.heap.size) 0 f1 ∧ w'.rangeAt (w7.heap.size + 1) 0 f2 ∧ w'.rangeAt (w7.heap.size + 1 + 1) 0 f3 ∧ w'.rangeAt w3.heap.size 0 (ivCells v (.slice ga v.ents.length gc)) ∧ w'.rangeAt w.heap.size 0 (ivCells v (.slice a v.ents.length c))) w' from fun w' hs => ⟨(P16.out.below hs).rng, (P26.out.below hs).rng, (Q14.out.below hs).rng, (Q24.out.below hs).rng, (S12.out.below hs).rng, (S22.out.below hs).rng, (S32.out.below hs).rng, (T10.out.below hs).rng, (T20.out.below hs).rng, (T30.out.below hs).rng, iv_range (show HB _ (ivObj v (.slice ga v.ents.length gc)) _ from V8.out.below hs), vb_range (RV13.out.below hs)⟩)
      have BB := Lib.hid (Below.refl x4.heap.size x4).drew
      have k1 : (y == y) = true := by simp
      refine anyH_region (fun w' => w'.rangeAt (w4.heap.size) 0 c1 ∧ w'.rangeAt (w4.heap.size + 1) 0 c2 ∧ w'.rangeAt (w5.heap.size) 0 d1 ∧ w'.rangeAt (w5.heap.size + 1) 0 d2 ∧ w'.rangeAt (w6.heap.size) 0 e1 ∧ w'.rangeAt (w6.heap.size + 1) 0 e2 ∧ w'.rangeAt (w6.heap.size + 1 + 1) 0 e3 ∧ w'.rangeAt (w7.heap.size) 0 f1 ∧ w'.rangeAt (w7.heap.size + 1) 0 f2 ∧ w'.rangeAt (w7.heap.size + 1 + 1) 0 f3 ∧ w'.rangeAt w3.heap.size 0 (ivCells v (.slice ga v.ents.length gc)) ∧ w'.rangeAt w.heap.size 0 (ivCells v (.slice a v.ents.length c))) (by kernel_rfl) ?_
      obtain ⟨q0, hq0⟩ : ∃ W, W = World.drew x4 := ⟨_, rfl⟩
      rw [← hq0] at BB ⊢
      clear hq0
      have SD := Lib.hid (HS.out q0 BB.out)
      refine wpAnyH_take (i := 0) (oi := ⟨some 69, _, _, _, _, _⟩) (v := ?va0) rfl (by as_aux_lemma => kernel_rfl) (by as_aux_lemma => kernel_rfl) (by as_aux_lemma => kernel_rfl) (fun _ _ _ h => h) (Or.inl ⟨by as_aux_lemma => rfl, ?hya0⟩) SD.out ?resta0
      case hya0 => (intro w hSw; go_simp; try (with_reducible rfl))
      simp only [Act.put, List.setIfInBounds_toArray, List.set_cons_zero, List.set_cons_succ]
      refine wpAnyH_take (i := 2) (oi := ⟨some 71, _, _, _, _, _⟩) (v := ?va2) rfl (by as_aux_lemma => kernel_rfl) (by as_aux_lemma => kernel_rfl) (by as_aux_lemma => kernel_rfl) (fun _ _ _ h => h) (Or.inl ⟨by as_aux_lemma => rfl, ?hya2⟩) SD.out ?resta2
      case hya2 => (intro w hSw; go_simp; try (with_reducible rfl))
      simp only [Act.put, List.setIfInBounds_toArray, List.set_cons_zero, List.set_cons_succ]
      refine anyH_one (i := 1) (o := ⟨some 70, _, _, _, _, _⟩) (by as_aux_lemma => kernel_rfl) rfl (fun K hK => ?_)
      rw [if_pos (by as_aux_lemma => rfl)]
      go_simp
      refine (code_any y _ (GL13.out.below BB.out)).mono ?_
      rintro ev q1 ⟨rfl, hs⟩
      have Bq1 := Lib.hid (BB.out.trans (hs.mono BB.out.size))
      have Sq1 := Lib.hid (HS.out _ Bq1.out)
      clear hs
      refine hK.out _ _ Sq1.out ?_
      clear hK K
      try simp only [Act.put, List.setIfInBounds_toArray, List.set_cons_zero, List.set_cons_succ]
      refine wpAnyH_take (i := 3) (oi := ⟨some 72, _, _, _, _, _⟩) (v := ?va3) rfl (by as_aux_lemma => kernel_rfl) (by as_aux_lemma => kernel_rfl) (by as_aux_lemma => kernel_rfl) (fun _ _ _ h => h) (Or.inl ⟨by as_aux_lemma => rfl, ?hya3⟩) Sq1.out ?resta3
      case hya3 => (intro w hSw; go_simp; try (with_reducible rfl))
      simp only [Act.put, List.setIfInBounds_toArray, List.set_cons_zero, List.set_cons_succ]
      refine wpAnyH_take (i := 4) (oi := ⟨some 73, _, _, _, _, _⟩) (v := ?va4) rfl (by as_aux_lemma => kernel_rfl) (by as_aux_lemma => kernel_rfl) (by as_aux_lemma => kernel_rfl) (fun _ _ _ h => h) (Or.inl ⟨by as_aux_lemma => rfl, ?hya4⟩) Sq1.out ?resta4
      case hya4 => (intro w hSw; go_simp; try (with_reducible rfl))
      simp only [Act.put, List.setIfInBounds_toArray, List.set_cons_zero, List.set_cons_succ]
      refine wpAnyH_take (i := 5) (oi := ⟨some 74, _, _, _, _, _⟩) (v := ?va5) rfl (by as_aux_lemma => kernel_rfl) (by as_aux_lemma => kernel_rfl) (by as_aux_lemma => kernel_rfl) (fun _ _ _ h => h) (Or.inl ⟨by as_aux_lemma => rfl, ?hya5⟩) Sq1.out ?resta5
      case hya5 => (intro w hSw; go_simp; try (with_reducible rfl))
      simp only [Act.put, List.setIfInBounds_toArray, List.set_cons_zero, List.set_cons_succ]
      refine wpAnyH_take (i := 7) (oi := ⟨some 76, _, _, _, _, _⟩) (v := ?va7) rfl (by as_aux_lemma => kernel_rfl) (by as_aux_lemma => kernel_rfl) (by as_aux_lemma => kernel_rfl) (fun _ _ _ h => h) (Or.inl ⟨by as_aux_lemma => rfl, ?hya7⟩) Sq1.out ?resta7
      case hya7 => (intro w hSw; go_simp; try (with_reducible rfl))
      simp only [Act.put, List.setIfInBounds_toArray, List.set_cons_zero, List.set_cons_succ]
      refine anyH_one (i := 6) (o := ⟨some 75, _, _, _, _, _⟩) (by as_aux_lemma => kernel_rfl) rfl (fun K hK => ?_)
      rw [if_pos (by as_aux_lemma => rfl)]
      go_simp
      refine (code_any y _ (GL13.out.below Bq1.out)).mono ?_
      rintro ev q2 ⟨rfl, hs⟩
      have Bq2 := Lib.hid (Bq1.out.trans (hs.mono Bq1.out.size))
      have Sq2 := Lib.hid (HS.out _ Bq2.out)
      clear hs
      refine hK.out _ _ Sq2.out ?_
      clear hK K
      try simp only [Act.put, List.setIfInBounds_toArray, List.set_cons_zero, List.set_cons_succ]
      refine wpAnyH_take (i := 8) (oi := ⟨some 77, _, _, _, _, _⟩) (v := ?va8) rfl (by as_aux_lemma => kernel_rfl) (by as_aux_lemma => kernel_rfl) (by as_aux_lemma => kernel_rfl) (fun _ _ _ h => h) (Or.inl ⟨by as_aux_lemma => rfl, ?hya8⟩) Sq2.out ?resta8
      case hya8 => (intro w hSw; go_simp; try (with_reducible rfl))
      simp only [Act.put, List.setIfInBounds_toArray, List.set_cons_zero, List.set_cons_succ]
      refine wpAnyH_take (i := 9) (oi := ⟨some 78, _, _, _, _, _⟩) (v := ?va9) rfl (by as_aux_lemma => kernel_rfl) (by as_aux_lemma => kernel_rfl) (by as_aux_lemma => kernel_rfl) (fun _ _ _ h => h) (Or.inl ⟨by as_aux_lemma => rfl, ?hya9⟩) Sq2.out ?resta9
      case hya9 => (intro w hSw; go_simp; try (with_reducible rfl))
      simp only [Act.put, List.setIfInBounds_toArray, List.set_cons_zero, List.set_cons_succ]
      refine wpAnyH_take (i := 10) (oi := ⟨some 79, _, _, _, _, _⟩) (v := ?va10) rfl (by as_aux_lemma => kernel_rfl) (by as_aux_lemma => kernel_rfl) (by as_aux_lemma => kernel_rfl) (fun _ _ _ h => h) (Or.inl ⟨by as_aux_lemma => rfl, ?hya10⟩) Sq2.out ?resta10
      case hya10 => (intro w hSw; go_simp; try (with_reducible rfl))
      simp only [Act.put, List.setIfInBounds_toArray, List.set_cons_zero, List.set_cons_succ]
      refine wpAnyH_take (i := 11) (oi := ⟨some 80, _, _, _, _, _⟩) (v := .agg (ivCells v (.slice ga v.ents.length gc)).toArray) rfl (by as_aux_lemma => kernel_rfl) (by as_aux_lemma => kernel_rfl) (by as_aux_lemma => kernel_rfl) (fun _ _ _ h => h) (yieldsIf_load_mid (by as_aux_lemma => rfl) 37 (.tmp 7) rfl (w3.heap.size) 0 rfl (ivCells v (.slice ga v.ents.length gc)) _ (fun w h => h.2.2.2.2.2.2.2.2.2.2.1) Tryd.underlying37 rfl ivInfoS) Sq2.out ?restL11
      simp only [Act.put, List.setIfInBounds_toArray, List.set_cons_zero, List.set_cons_succ]
      refine wpAnyH_take (i := 13) (oi := ⟨some 82, _, _, _, _, _⟩) (v := .agg (ivCells v (.slice a v.ents.length c)).toArray) rfl (by as_aux_lemma => kernel_rfl) (by as_aux_lemma => kernel_rfl) (by as_aux_lemma => kernel_rfl) (fun _ _ _ h => h) (yieldsIf_load_mid (by as_aux_lemma => rfl) 26 (.tmp 3) rfl (w.heap.size) 0 rfl (ivCells v (.slice a v.ents.length c)) _ (fun w h => h.2.2.2.2.2.2.2.2.2.2.2) Tryd.underlying26 rfl (by kernel_rfl)) Sq2.out ?restL13
      simp only [Act.put, List.setIfInBounds_toArray, List.set_cons_zero, List.set_cons_succ]
      refine anyH_one (i := 12) (o := ⟨some 81, _, _, _, _, _⟩) (by as_aux_lemma => kernel_rfl) rfl (fun K hK => ?_)
      rw [if_pos (by as_aux_lemma => rfl)]
      go_simp
      refine (C.base _ v (.slice ga v.ents.length gc) _ (E9.out.below Bq2.out) (Nat.le_trans LE.out (by decide)) SZ.out).mono ?_
      rintro ev q3 ⟨rr, rfl, hrr, hs⟩
      obtain ⟨cb, rfl, hcb⟩ := RecA.of_recO hrr
      have CB := Lib.hid hcb
      clear hrr hcb
      have Bq3 := Lib.hid (Bq2.out.trans (hs.mono Bq2.out.size))
      have Sq3 := Lib.hid (HS.out _ Bq3.out)
      clear hs
      refine hK.out _ _ Sq3.out ?_
      clear hK K
      try simp only [Act.put, List.setIfInBounds_toArray, List.set_cons_zero, List.set_cons_succ]
      refine anyH_one (i := 14) (o := ⟨some 83, _, _, _, _, _⟩) (by as_aux_lemma => kernel_rfl) rfl (fun K hK => ?_)
      rw [if_pos (by as_aux_lemma => rfl)]
      go_simp
      refine (refBase_any v a v.ents.length c _).mono ?_
      rintro ev q4 ⟨rfl, hs⟩
      have CB := Lib.hid (CB.out.below hs)
      have Bq4 := Lib.hid (Bq3.out.trans (hs.mono Bq3.out.size))
      have Sq4 := Lib.hid (HS.out _ Bq4.out)
      clear hs
      refine hK.out _ _ Sq4.out ?_
      clear hK K
      try simp only [Act.put, List.setIfInBounds_toArray, List.set_cons_zero, List.set_cons_succ]
      refine anyH_one (i := 15) (o := ⟨some 84, _, _, _, _, _⟩) (by as_aux_lemma => kernel_rfl) rfl (fun K hK => ?_)
      rw [if_pos (by as_aux_lemma => rfl)]
      go_simp
      refine (same_rec _ _ (baseR v) _ CB.out.rd ⟨_, _, rfl, SV.nil _ _, (W13.out.below Bq4.out).sv⟩).mono ?_
      rintro ev q5 ⟨rfl, hs⟩
      have Bq5 := Lib.hid (Bq4.out.trans (hs.mono Bq4.out.size))
      have Sq5 := Lib.hid (HS.out _ Bq5.out)
      clear hs
      refine hK.out _ _ Sq5.out ?_
      clear hK K
      try simp only [Act.put, List.setIfInBounds_toArray, List.set_cons_zero, List.set_cons_succ]
      refine wpAnyH_take (i := 16) (oi := ⟨some 85, _, _, _, _, _⟩) (v := ?va16) rfl (by as_aux_lemma => kernel_rfl) (by as_aux_lemma => kernel_rfl) (by as_aux_lemma => kernel_rfl) (fun _ _ _ h => h) (Or.inl ⟨by as_aux_lemma => rfl, ?hya16⟩) Sq5.out ?resta16
      case hya16 => (intro w hSw; go_simp; try (with_reducible rfl))
      simp only [Act.put, List.setIfInBounds_toArray, List.set_cons_zero, List.set_cons_succ]
      refine wpAnyH_take (i := 17) (oi := ⟨some 86, _, _, _, _, _⟩) (v := ?va17) rfl (by as_aux_lemma => kernel_rfl) (by as_aux_lemma => kernel_rfl) (by as_aux_lemma => kernel_rfl) (fun _ _ _ h => h) (Or.inl ⟨by as_aux_lemma => rfl, ?hya17⟩) Sq5.out ?resta17
      case hya17 => (intro w hSw; go_simp; try (with_reducible rfl))
      simp only [Act.put, List.setIfInBounds_toArray, List.set_cons_zero, List.set_cons_succ]
      refine wpAnyH_take (i := 18) (oi := ⟨some 87, _, _, _, _, _⟩) (v := .agg c1.toArray) rfl (by as_aux_lemma => kernel_rfl) (by as_aux_lemma => kernel_rfl) (by as_aux_lemma => kernel_rfl) (fun _ _ _ h => h) (yieldsIf_load_mid (by as_aux_lemma => rfl) 32 (.tmp 8) rfl (w4.heap.size) 0 rfl c1 _ (fun w h => h.1) Tryd.underlying32 rfl (by rw [A17.out.len]; exact recInfoS)) Sq5.out ?restL18
      simp only [Act.put, List.setIfInBounds_toArray, List.set_cons_zero, List.set_cons_succ]
      refine wpAnyH_take (i := 19) (oi := ⟨some 88, _, _, _, _, _⟩) (v := .agg d1.toArray) rfl (by as_aux_lemma => kernel_rfl) (by as_aux_lemma => kernel_rfl) (by as_aux_lemma => kernel_rfl) (fun _ _ _ h => h) (yieldsIf_load_mid (by as_aux_lemma => rfl) 32 (.tmp 11) rfl (w5.heap.size) 0 rfl d1 _ (fun w h => h.2.2.1) Tryd.underlying32 rfl (by rw [D15.out.len]; exact recInfoS)) Sq5.out ?restL19
      simp only [Act.put, List.setIfInBounds_toArray, List.set_cons_zero, List.set_cons_succ]
      refine anyH_one (i := 20) (o := ⟨some 89, _, _, _, _, _⟩) (by as_aux_lemma => kernel_rfl) rfl (fun K hK => ?_)
      rw [if_pos (by as_aux_lemma => rfl)]
      go_simp
      refine (same_rec _ _ (splA v right) _ (A17.out.below Bq5.out).rd (D15.out.below Bq5.out).rd).mono ?_
      rintro ev q6 ⟨rfl, hs⟩
      have Bq6 := Lib.hid (Bq5.out.trans (hs.mono Bq5.out.size))
      have Sq6 := Lib.hid (HS.out _ Bq6.out)
      clear hs
      refine hK.out _ _ Sq6.out ?_
      clear hK K
      try simp only [Act.put, List.setIfInBounds_toArray, List.set_cons_zero, List.set_cons_succ]
      refine wpAnyH_take (i := 21) (oi := ⟨some 90, _, _, _, _, _⟩) (v := ?va21) rfl (by as_aux_lemma => kernel_rfl) (by as_aux_lemma => kernel_rfl) (by as_aux_lemma => kernel_rfl) (fun _ _ _ h => h) (Or.inl ⟨by as_aux_lemma => rfl, ?hya21⟩) Sq6.out ?resta21
      case hya21 => (intro w hSw; go_simp; try (with_reducible rfl))
      simp only [Act.put, List.setIfInBounds_toArray, List.set_cons_zero, List.set_cons_succ]
      refine wpAnyH_take (i := 22) (oi := ⟨some 91, _, _, _, _, _⟩) (v := ?va22) rfl (by as_aux_lemma => kernel_rfl) (by as_aux_lemma => kernel_rfl) (by as_aux_lemma => kernel_rfl) (fun _ _ _ h => h) (Or.inl ⟨by as_aux_lemma => rfl, ?hya22⟩) Sq6.out ?resta22
      case hya22 => (intro w hSw; go_simp; try (with_reducible rfl))
      simp only [Act.put, List.setIfInBounds_toArray, List.set_cons_zero, List.set_cons_succ]
      refine wpAnyH_take (i := 23) (oi := ⟨some 92, _, _, _, _, _⟩) (v := .agg c2.toArray) rfl (by as_aux_lemma => kernel_rfl) (by as_aux_lemma => kernel_rfl) (by as_aux_lemma => kernel_rfl) (fun _ _ _ h => h) (yieldsIf_load_mid (by as_aux_lemma => rfl) 32 (.tmp 9) rfl (w4.heap.size + 1) 0 rfl c2 _ (fun w h => h.2.1) Tryd.underlying32 rfl (by rw [A27.out.len]; exact recInfoS)) Sq6.out ?restL23
      simp only [Act.put, List.setIfInBounds_toArray, List.set_cons_zero, List.set_cons_succ]
      refine wpAnyH_take (i := 24) (oi := ⟨some 93, _, _, _, _, _⟩) (v := .agg d2.toArray) rfl (by as_aux_lemma => kernel_rfl) (by as_aux_lemma => kernel_rfl) (by as_aux_lemma => kernel_rfl) (fun _ _ _ h => h) (yieldsIf_load_mid (by as_aux_lemma => rfl) 32 (.tmp 12) rfl (w5.heap.size + 1) 0 rfl d2 _ (fun w h => h.2.2.2.1) Tryd.underlying32 rfl (by rw [D25.out.len]; exact recInfoS)) Sq6.out ?restL24
      simp only [Act.put, List.setIfInBounds_toArray, List.set_cons_zero, List.set_cons_succ]
      refine anyH_one (i := 25) (o := ⟨some 94, _, _, _, _, _⟩) (by as_aux_lemma => kernel_rfl) rfl (fun K hK => ?_)
      rw [if_pos (by as_aux_lemma => rfl)]
      go_simp
      refine (same_rec _ _ (splB v) _ (A27.out.below Bq6.out).rd (D25.out.below Bq6.out).rd).mono ?_
      rintro ev q7 ⟨rfl, hs⟩
      have Bq7 := Lib.hid (Bq6.out.trans (hs.mono Bq6.out.size))
      have Sq7 := Lib.hid (HS.out _ Bq7.out)
      clear hs
      refine hK.out _ _ Sq7.out ?_
      clear hK K
      try simp only [Act.put, List.setIfInBounds_toArray, List.set_cons_zero, List.set_cons_succ]
      refine wpAnyH_take (i := 26) (oi := ⟨some 95, _, _, _, _, _⟩) (v := ?va26) rfl (by as_aux_lemma => kernel_rfl) (by as_aux_lemma => kernel_rfl) (by as_aux_lemma => kernel_rfl) (fun _ _ _ h => h) (Or.inl ⟨by as_aux_lemma => rfl, ?hya26⟩) Sq7.out ?resta26
      case hya26 => (intro w hSw; go_simp; try (with_reducible rfl))
      simp only [Act.put, List.setIfInBounds_toArray, List.set_cons_zero, List.set_cons_succ]
      refine wpAnyH_take (i := 27) (oi := ⟨some 96, _, _, _, _, _⟩) (v := ?va27) rfl (by as_aux_lemma => kernel_rfl) (by as_aux_lemma => kernel_rfl) (by as_aux_lemma => kernel_rfl) (fun _ _ _ h => h) (Or.inl ⟨by as_aux_lemma => rfl, ?hya27⟩) Sq7.out ?resta27
      case hya27 => (intro w hSw; go_simp; try (with_reducible rfl))
      simp only [Act.put, List.setIfInBounds_toArray, List.set_cons_zero, List.set_cons_succ]
      refine wpAnyH_take (i := 28) (oi := ⟨some 97, _, _, _, _, _⟩) (v := .agg e1.toArray) rfl (by as_aux_lemma => kernel_rfl) (by as_aux_lemma => kernel_rfl) (by as_aux_lemma => kernel_rfl) (fun _ _ _ h => h) (yieldsIf_load_mid (by as_aux_lemma => rfl) 32 (.tmp 14) rfl (w6.heap.size) 0 rfl e1 _ (fun w h => h.2.2.2.2.1) Tryd.underlying32 rfl (by rw [E13.out.len]; exact recInfoS)) Sq7.out ?restL28
      simp only [Act.put, List.setIfInBounds_toArray, List.set_cons_zero, List.set_cons_succ]
      refine wpAnyH_take (i := 29) (oi := ⟨some 98, _, _, _, _, _⟩) (v := .agg f1.toArray) rfl (by as_aux_lemma => kernel_rfl) (by as_aux_lemma => kernel_rfl) (by as_aux_lemma => kernel_rfl) (fun _ _ _ h => h) (yieldsIf_load_mid (by as_aux_lemma => rfl) 32 (.tmp 18) rfl (w7.heap.size) 0 rfl f1 _ (fun w h => h.2.2.2.2.2.2.2.1) Tryd.underlying32 rfl (by rw [F11.out.len]; exact recInfoS)) Sq7.out ?restL29
      simp only [Act.put, List.setIfInBounds_toArray, List.set_cons_zero, List.set_cons_succ]
      refine anyH_one (i := 30) (o := ⟨some 99, _, _, _, _, _⟩) (by as_aux_lemma => kernel_rfl) rfl (fun K hK => ?_)
      rw [if_pos (by as_aux_lemma => rfl)]
      go_simp
      refine (same_rec _ _ (groA v right) _ (E13.out.below Bq7.out).rd (F11.out.below Bq7.out).rd).mono ?_
      rintro ev q8 ⟨rfl, hs⟩
      have Bq8 := Lib.hid (Bq7.out.trans (hs.mono Bq7.out.size))
      have Sq8 := Lib.hid (HS.out _ Bq8.out)
      clear hs
      refine hK.out _ _ Sq8.out ?_
      clear hK K
      try simp only [Act.put, List.setIfInBounds_toArray, List.set_cons_zero, List.set_cons_succ]
      refine wpAnyH_take (i := 31) (oi := ⟨some 100, _, _, _, _, _⟩) (v := ?va31) rfl (by as_aux_lemma => kernel_rfl) (by as_aux_lemma => kernel_rfl) (by as_aux_lemma => kernel_rfl) (fun _ _ _ h => h) (Or.inl ⟨by as_aux_lemma => rfl, ?hya31⟩) Sq8.out ?resta31
      case hya31 => (intro w hSw; go_simp; try (with_reducible rfl))
      simp only [Act.put, List.setIfInBounds_toArray, List.set_cons_zero, List.set_cons_succ]
      refine wpAnyH_take (i := 32) (oi := ⟨some 101, _, _, _, _, _⟩) (v := ?va32) rfl (by as_aux_lemma => kernel_rfl) (by as_aux_lemma => kernel_rfl) (by as_aux_lemma => kernel_rfl) (fun _ _ _ h => h) (Or.inl ⟨by as_aux_lemma => rfl, ?hya32⟩) Sq8.out ?resta32
      case hya32 => (intro w hSw; go_simp; try (with_reducible rfl))
      simp only [Act.put, List.setIfInBounds_toArray, List.set_cons_zero, List.set_cons_succ]
      refine wpAnyH_take (i := 33) (oi := ⟨some 102, _, _, _, _, _⟩) (v := .agg e2.toArray) rfl (by as_aux_lemma => kernel_rfl) (by as_aux_lemma => kernel_rfl) (by as_aux_lemma => kernel_rfl) (fun _ _ _ h => h) (yieldsIf_load_mid (by as_aux_lemma => rfl) 32 (.tmp 15) rfl (w6.heap.size + 1) 0 rfl e2 _ (fun w h => h.2.2.2.2.2.1) Tryd.underlying32 rfl (by rw [E23.out.len]; exact recInfoS)) Sq8.out ?restL33
      simp only [Act.put, List.setIfInBounds_toArray, List.set_cons_zero, List.set_cons_succ]
      refine wpAnyH_take (i := 34) (oi := ⟨some 103, _, _, _, _, _⟩) (v := .agg f2.toArray) rfl (by as_aux_lemma => kernel_rfl) (by as_aux_lemma => kernel_rfl) (by as_aux_lemma => kernel_rfl) (fun _ _ _ h => h) (yieldsIf_load_mid (by as_aux_lemma => rfl) 32 (.tmp 19) rfl (w7.heap.size + 1) 0 rfl f2 _ (fun w h => h.2.2.2.2.2.2.2.2.1) Tryd.underlying32 rfl (by rw [F21.out.len]; exact recInfoS)) Sq8.out ?restL34
      simp only [Act.put, List.setIfInBounds_toArray, List.set_cons_zero, List.set_cons_succ]
      refine anyH_one (i := 35) (o := ⟨some 104, _, _, _, _, _⟩) (by as_aux_lemma => kernel_rfl) rfl (fun K hK => ?_)
      rw [if_pos (by as_aux_lemma => rfl)]
      go_simp
      refine (same_rec _ _ (splB v) _ (E23.out.below Bq8.out).rd (F21.out.below Bq8.out).rd).mono ?_
      rintro ev q9 ⟨rfl, hs⟩
      have Bq9 := Lib.hid (Bq8.out.trans (hs.mono Bq8.out.size))
      have Sq9 := Lib.hid (HS.out _ Bq9.out)
      clear hs
      refine hK.out _ _ Sq9.out ?_
      clear hK K
      try simp only [Act.put, List.setIfInBounds_toArray, List.set_cons_zero, List.set_cons_succ]
      refine wpAnyH_take (i := 36) (oi := ⟨some 105, _, _, _, _, _⟩) (v := ?va36) rfl (by as_aux_lemma => kernel_rfl) (by as_aux_lemma => kernel_rfl) (by as_aux_lemma => kernel_rfl) (fun _ _ _ h => h) (Or.inl ⟨by as_aux_lemma => rfl, ?hya36⟩) Sq9.out ?resta36
      case hya36 => (intro w hSw; go_simp; try (with_reducible rfl))
      simp only [Act.put, List.setIfInBounds_toArray, List.set_cons_zero, List.set_cons_succ]
      refine wpAnyH_take (i := 37) (oi := ⟨some 106, _, _, _, _, _⟩) (v := ?va37) rfl (by as_aux_lemma => kernel_rfl) (by as_aux_lemma => kernel_rfl) (by as_aux_lemma => kernel_rfl) (fun _ _ _ h => h) (Or.inl ⟨by as_aux_lemma => rfl, ?hya37⟩) Sq9.out ?resta37
      case hya37 => (intro w hSw; go_simp; try (with_reducible rfl))
      simp only [Act.put, List.setIfInBounds_toArray, List.set_cons_zero, List.set_cons_succ]
      refine wpAnyH_take (i := 38) (oi := ⟨some 107, _, _, _, _, _⟩) (v := .agg e3.toArray) rfl (by as_aux_lemma => kernel_rfl) (by as_aux_lemma => kernel_rfl) (by as_aux_lemma => kernel_rfl) (fun _ _ _ h => h) (yieldsIf_load_mid (by as_aux_lemma => rfl) 32 (.tmp 16) rfl (w6.heap.size + 1 + 1) 0 rfl e3 _ (fun w h => h.2.2.2.2.2.2.1) Tryd.underlying32 rfl (by rw [E33.out.len]; exact recInfoS)) Sq9.out ?restL38
      simp only [Act.put, List.setIfInBounds_toArray, List.set_cons_zero, List.set_cons_succ]
      refine wpAnyH_take (i := 39) (oi := ⟨some 108, _, _, _, _, _⟩) (v := .agg f3.toArray) rfl (by as_aux_lemma => kernel_rfl) (by as_aux_lemma => kernel_rfl) (by as_aux_lemma => kernel_rfl) (fun _ _ _ h => h) (yieldsIf_load_mid (by as_aux_lemma => rfl) 32 (.tmp 20) rfl (w7.heap.size + 1 + 1) 0 rfl f3 _ (fun w h => h.2.2.2.2.2.2.2.2.2.1) Tryd.underlying32 rfl (by rw [F31.out.len]; exact recInfoS)) Sq9.out ?restL39
      simp only [Act.put, List.setIfInBounds_toArray, List.set_cons_zero, List.set_cons_succ]
      refine anyH_one (i := 40) (o := ⟨some 109, _, _, _, _, _⟩) (by as_aux_lemma => kernel_rfl) rfl (fun K hK => ?_)
      rw [if_pos (by as_aux_lemma => rfl)]
      go_simp
      refine (same_rec _ _ (groT v left right) _ (E33.out.below Bq9.out).rd (F31.out.below Bq9.out).rd).mono ?_
      rintro ev q10 ⟨rfl, hs⟩
      have Bq10 := Lib.hid (Bq9.out.trans (hs.mono Bq9.out.size))
      have Sq10 := Lib.hid (HS.out _ Bq10.out)
      clear hs
      refine hK.out _ _ Sq10.out ?_
      clear hK K
      try simp only [Act.put, List.setIfInBounds_toArray, List.set_cons_zero, List.set_cons_succ]
      refine wpAnyH_take (i := 41) (oi := ⟨some 110, _, _, _, _, _⟩) (v := ?va41) rfl (by as_aux_lemma => kernel_rfl) (by as_aux_lemma => kernel_rfl) (by as_aux_lemma => kernel_rfl) (fun _ _ _ h => h) (Or.inl ⟨by as_aux_lemma => rfl, ?hya41⟩) Sq10.out ?resta41
      case hya41 => (intro w hSw; go_simp; try (with_reducible rfl))
      simp only [Act.put, List.setIfInBounds_toArray, List.set_cons_zero, List.set_cons_succ]
      refine wpAnyH_take (i := 42) (oi := ⟨some 111, _, _, _, _, _⟩) (v := ?va42) rfl (by as_aux_lemma => kernel_rfl) (by as_aux_lemma => kernel_rfl) (by as_aux_lemma => kernel_rfl) (fun _ _ _ h => h) (Or.inl ⟨by as_aux_lemma => rfl, ?hya42⟩) Sq10.out ?resta42
      case hya42 => (intro w hSw; go_simp; try (with_reducible rfl))
      simp only [Act.put, List.setIfInBounds_toArray, List.set_cons_zero, List.set_cons_succ]
      refine wpAnyH_take (i := 43) (oi := ⟨some 112, _, _, _, _, _⟩) (v := .agg (ivCells v (.slice ga v.ents.length gc)).toArray) rfl (by as_aux_lemma => kernel_rfl) (by as_aux_lemma => kernel_rfl) (by as_aux_lemma => kernel_rfl) (fun _ _ _ h => h) (yieldsIf_load_mid (by as_aux_lemma => rfl) 37 (.tmp 7) rfl (w3.heap.size) 0 rfl (ivCells v (.slice ga v.ents.length gc)) _ (fun w h => h.2.2.2.2.2.2.2.2.2.2.1) Tryd.underlying37 rfl ivInfoS) Sq10.out ?restL43
      simp only [Act.put, List.setIfInBounds_toArray, List.set_cons_zero, List.set_cons_succ]
      refine wpAnyH_take (i := 45) (oi := ⟨some 114, _, _, _, _, _⟩) (v := .agg (ivCells v (.slice a v.ents.length c)).toArray) rfl (by as_aux_lemma => kernel_rfl) (by as_aux_lemma => kernel_rfl) (by as_aux_lemma => kernel_rfl) (fun _ _ _ h => h) (yieldsIf_load_mid (by as_aux_lemma => rfl) 26 (.tmp 3) rfl (w.heap.size) 0 rfl (ivCells v (.slice a v.ents.length c)) _ (fun w h => h.2.2.2.2.2.2.2.2.2.2.2) Tryd.underlying26 rfl (by kernel_rfl)) Sq10.out ?restL45
      simp only [Act.put, List.setIfInBounds_toArray, List.set_cons_zero, List.set_cons_succ]
      refine anyH_one (i := 44) (o := ⟨some 113, _, _, _, _, _⟩) (by as_aux_lemma => kernel_rfl) rfl (fun K hK => ?_)
      rw [if_pos (by as_aux_lemma => rfl)]
      go_simp
      refine (viewI_any v ga v.ents.length gc _).mono ?_
      rintro ev q11 ⟨rfl, hs⟩
      have Bq11 := Lib.hid (Bq10.out.trans (hs.mono Bq10.out.size))
      have Sq11 := Lib.hid (HS.out _ Bq11.out)
      clear hs
      refine hK.out _ _ Sq11.out ?_
      clear hK K
      try simp only [Act.put, List.setIfInBounds_toArray, List.set_cons_zero, List.set_cons_succ]
      refine anyH_one (i := 46) (o := ⟨some 115, _, _, _, _, _⟩) (by as_aux_lemma => kernel_rfl) rfl (fun K hK => ?_)
      rw [if_pos (by as_aux_lemma => rfl)]
      go_simp
      refine (sameI_any v (.slice ga v.ents.length gc) (.slice a v.ents.length c) _ (E9.out.below Bq11.out).sv (W13.out.below Bq11.out).sv).mono ?_
      rintro ev q12 ⟨rfl, hs⟩
      have Bq12 := Lib.hid (Bq11.out.trans (hs.mono Bq11.out.size))
      have Sq12 := Lib.hid (HS.out _ Bq12.out)
      clear hs
      refine hK.out _ _ Sq12.out ?_
      clear hK K
      try simp only [Act.put, List.setIfInBounds_toArray, List.set_cons_zero, List.set_cons_succ]
      refine wpAnyH_take (i := 47) (oi := ⟨some 116, _, _, _, _, _⟩) (v := ?va47) rfl (by as_aux_lemma => kernel_rfl) (by as_aux_lemma => kernel_rfl) (by as_aux_lemma => kernel_rfl) (fun _ _ _ h => h) (Or.inl ⟨by as_aux_lemma => rfl, ?hya47⟩) Sq12.out ?resta47
      case hya47 => (intro w hSw; go_simp; try (with_reducible rfl))
      simp only [Act.put, List.setIfInBounds_toArray, List.set_cons_zero, List.set_cons_succ]
      refine wpAnyH_take (i := 48) (oi := ⟨some 117, _, _, _, _, _⟩) (v := ?va48) rfl (by as_aux_lemma => kernel_rfl) (by as_aux_lemma => kernel_rfl) (by as_aux_lemma => kernel_rfl) (fun _ _ _ h => h) (Or.inl ⟨by as_aux_lemma => rfl, ?hya48⟩) Sq12.out ?resta48
      case hya48 => (intro w hSw; go_simp; try (with_reducible rfl))
      simp only [Act.put, List.setIfInBounds_toArray, List.set_cons_zero, List.set_cons_succ]
      refine anyH_one (i := 49) (o := ⟨some 118, _, _, _, _, _⟩) (by as_aux_lemma => kernel_rfl) rfl (fun K hK => ?_)
      rw [if_pos (by as_aux_lemma => rfl)]
      go_simp
      refine (awakeI C _).mono ?_
      rintro ev q13 ⟨rfl, hs⟩
      have Bq13 := Lib.hid (Bq12.out.trans (hs.mono Bq12.out.size))
      have Sq13 := Lib.hid (HS.out _ Bq13.out)
      clear hs
      refine hK.out _ _ Sq13.out ?_
      clear hK K
      try simp only [Act.put, List.setIfInBounds_toArray, List.set_cons_zero, List.set_cons_succ]
      refine wpAnyH_take (i := 50) (oi := ⟨some 119, _, _, _, _, _⟩) (v := ?va50) rfl (by as_aux_lemma => kernel_rfl) (by as_aux_lemma => kernel_rfl) (by as_aux_lemma => kernel_rfl) (fun _ _ _ h => h) (Or.inl ⟨by as_aux_lemma => rfl, ?hya50⟩) Sq13.out ?resta50
      case hya50 => (intro w hSw; go_simp; try (with_reducible rfl))
      simp only [Act.put, List.setIfInBounds_toArray, List.set_cons_zero, List.set_cons_succ]
      refine anyH_one (i := 51) (o := ⟨some 6, _, _, _, _, _⟩) (by as_aux_lemma => kernel_rfl) rfl (fun K hK => ?_)
      rw [if_pos (by as_aux_lemma => rfl)]
      go_simp
      refine hK.out _ _ Sq13.out ?_
      clear hK K
      try simp only [Act.put, List.setIfInBounds_toArray, List.set_cons_zero, List.set_cons_succ]
      refine wpAnyH_done (by as_aux_lemma => kernel_rfl) ?_ _
      go_wp2
      go_ret
      exact ⟨rfl, B13.out.trans (Bq13.out.mono B13.out.size)⟩
    · go_wp2_with fail
      refine (awakeI C _).mono ?_
      rintro ev w3 ⟨rfl, hs⟩
      clear r_0 r_1 r_2 r_3 r_4 r_5 r_6 r_7 r_8
      have B4 := Lib.hid (B3.out.trans (hs.mono B3.out.size))
      have W4 := Lib.hid (W3.out.below hs)
      have GL4 := Lib.hid (GL3.out.below hs)
      have RV4 := Lib.hid (RV3.out.below hs)
      clear B3 W3 GL3 RV3
      clear hs
      go_wp2
      go_ret
      exact ⟨rfl, B4.out⟩
end Go.Proofs.YtkkmfacngmginaaDoor
