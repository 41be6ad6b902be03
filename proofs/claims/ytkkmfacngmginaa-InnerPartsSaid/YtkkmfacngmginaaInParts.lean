/- The walk of the law InnerParts, out of package inner's contracts. -/
import Derived.Test.YtkkmfacngmginaaInRef
import Derived.Test.YtkkmfacngmginaaInLastB
namespace Go.Proofs.Ytkkmfacngmginaa
open Go.RowKit

set_option maxRecDepth 100000 in
set_option maxHeartbeats 40000000 in
theorem lawParts (C : InC) (u : Value) (ds : List RcD) (page : Int) (key : ByteArray) (w : World) (hv : ChW w u ds) (hk : key.size ≤ maxLen) :
    Calls Try.prog 3 #[u, .int .i64 page, .string key] w fun ev w' => ev = .returned (.bool true) ∧ Below w.heap.size w w' := by
  have hnot : ∀ (x : Bool) (w : World), (Op.unary .not (.bool x)).run Try.prog w = .ok (.bool (!x)) w := fun _ _ => rfl
  have HK := Lib.hid hk
  have L0 := Lib.hid hv
  have B0 := Lib.hid (Below.refl w.heap.size w)
  unfold maxLen at hk
  clear hv
  go_enter Try.func3, Try.ntmps3
  go_wp2_with fail
  refine (fewI_any u ds _ L0.out).mono ?_
  rintro ev w1 ⟨b, rfl, hok, hs⟩
  have L1 := Lib.hid (L0.out.below hs)
  have B1 := Lib.hid (B0.out.trans (hs.mono B0.out.size))
  clear L0 B0
  clear hs
  cases b with
  | false =>
    clear hok
    go_wp2_with fail
    refine (awakeI C _).mono ?_
    rintro ev w2 ⟨rfl, hs⟩
    have L2 := Lib.hid (L1.out.below hs)
    have B2 := Lib.hid (B1.out.trans (hs.mono B1.out.size))
    clear L1 B1
    clear hs
    go_wp2
    go_ret
    exact ⟨rfl, B2.out⟩
  | true =>
    have FW := Lib.hid (hok rfl)
    clear hok
    by_cases h100 : key.size ≤ 100
    · have SZ := Lib.hid B1.out.size
      go_wp2_with fail
      refine (ownI_any u ds _ L1.out (by have := FW.out.1; omega)).mono ?_
      rintro ev w2 ⟨x, dx, rfl, hx, hR1, hs⟩
      have L2 := Lib.hid (L1.out.below hs)
      have B2 := Lib.hid (B1.out.trans (hs.mono B1.out.size))
      clear L1 B1
      have X0 := Lib.hid (hx.mono SZ.out)
      clear hs hx SZ
      have R1 := Lib.hid hR1
      have R1L := Lib.hid (few_read FW.out hR1)
      clear hR1
      go_wp2_with fail
      refine (C.fold _ x dx _ X0.out (by have := R1L.out.1; omega) (by have := R1L.out.2; omega)).mono ?_
      rintro ev w3 ⟨en, rfl, hen, hsz, hs⟩
      rw [R1.out] at hen hsz
      rw [R1.out]
      have L3 := Lib.hid (L2.out.below hs)
      have B3 := Lib.hid (B2.out.trans (hs.mono B2.out.size))
      have X1 := Lib.hid (X0.out.below hs)
      clear L2 B2 X0
      have E0 := Lib.hid (hen)
      have Z0 := Lib.hid (hsz)
      clear hs hen hsz
      obtain ⟨v, hv⟩ : ∃ v, viewI (readC ds) = v := ⟨_, rfl⟩
      rw [hv] at E0 Z0
      rw [hv]
      obtain ⟨m, hm⟩ : ∃ m, v.ents.length = m := ⟨_, rfl⟩
      obtain ⟨xa, xc, rfl, -, -⟩ := E0.out.lenN hm
      have HM := Lib.hid hm
      have N1 := Lib.hid hv
      clear hv hm
      unfold ivVal
      by_cases hc : codeI (readC ds) = 0
      · have EBd := Lib.hid E0.out.bounds
        have W3 := Lib.hid B3.out.size
        rw [errV_zero hc]
        have HC := Lib.hid hc
        have HF := Lib.hid (viewI_some hc N1.out)
        have HG := Lib.hid (goodI_fold HF.out)
        have HL := Lib.hid (show v.ents.length ≤ 1000 from fold_lenI HF.out (by have := FW.out.2.1; have := FW.out.1; rw [totalI_read]; simp only [readC, List.length_map]; omega))
        clear hc
        have hs := alloc_below0 w3 (ivObj v (.slice xa m xc))
        have L4 := Lib.hid (L3.out.below hs)
        have B4 := Lib.hid (B3.out.trans (hs.mono B3.out.size))
        have X2 := Lib.hid (X1.out.below hs)
        have E1 := Lib.hid (E0.out.below hs)
        clear L3 B3 X1 E0
        have V0 := Lib.hid (VB.new v (.slice xa m xc) w3)
        have H0 := Lib.hid (HB.new (ivObj v (.slice xa m xc)) w3)
        clear hs
        unfold ivObj at L4 B4 X2 E1 V0 H0
        by_cases hw : whyI v = 0
        · have v_0 := V0.out.c0
          have v_1 := V0.out.c1
          have v_2 := V0.out.c2
          have v_3 := V0.out.c3
          have v_4 := V0.out.c4
          have v_5 := V0.out.c5
          have v_6 := V0.out.c6
          have v_7 := V0.out.c7
          have v_8 := V0.out.c8
          have DM := Lib.hid (parts_math HF.out hw page)
          have HH := Lib.hid (why_two hw)
          have BW := Lib.hid B4.out.size
          go_wp2_with fail
          refine (C.split _ v (.slice xa m xc) page _ E1.out HL.out Z0.out hw).mono ?_
          rintro ev w4 ⟨sa, sb, rfl, ha, hb, hs⟩
          obtain ⟨ra, rc, ea, ec, rfl, hao⟩ := ha.open
          obtain ⟨rb, rq, eb, eq, rfl, hbo⟩ := hb.open
          clear v_0 v_1 v_2 v_3 v_4 v_5 v_6 v_7 v_8
          have L5 := Lib.hid (L4.out.below hs)
          have B5 := Lib.hid (B4.out.trans (hs.mono B4.out.size))
          have X3 := Lib.hid (X2.out.below hs)
          have E2 := Lib.hid (E1.out.below hs)
          have V1 := Lib.hid (V0.out.below hs)
          have H1 := Lib.hid (H0.out.below hs)
          clear L4 B4 X2 E1 V0 H0
          clear hs ha hb hw
          obtain ⟨kx, hkx⟩ : ∃ k, halfK v = k := ⟨_, rfl⟩
          have RRV := Lib.hid (show rightR v = baseI7 (halfK v) v.high v.unb v.right (v.ents.drop (v.ents.length / 2)) from rfl)
          obtain ⟨rt, hrt⟩ : ∃ l, v.ents.drop (v.ents.length / 2) = l := ⟨_, rfl⟩
          rw [hrt] at RRV
          rw [RRV.out] at hbo DM ⊢
          rw [hkx] at hao hbo DM ⊢
          have NL := Lib.hid (show rt.length ≤ 1000 from by rw [← hrt, List.length_drop]; have := HL.out; omega)
          simp only [recVal, splitI9, baseI7, Sc.zero, List.length_nil]
          have J0 := Lib.hid (show RcO w.heap.size w4 (⟨(⟨9, ⟨#[]⟩, ⟨#[]⟩, false, 0, kx, ⟨#[]⟩, page, 0, 0, ⟨#[]⟩, 0, 0⟩ : Sc), ra, rc, ea, ec, [], []⟩ : RcD) from hao.mono BW.out)
          have I0 := Lib.hid (show RcO w.heap.size w4 (⟨(⟨7, kx, v.high, v.unb, v.right, ⟨#[]⟩, ⟨#[]⟩, 0, 0, 0, ⟨#[]⟩, 0, 0⟩ : Sc), rb, rq, eb, eq, [], rt⟩ : RcD) from hbo.mono BW.out)
          clear hao hbo hkx hrt BW
          obtain ⟨gw, hgw⟩ : ∃ W, W = (World.alloc (World.alloc w4 (.cells #[.int .i64 0, .string ⟨#[]⟩, .string ⟨#[]⟩, .bool false, .int .i64 0, .slice none 0 0, .slice none 0 0, .string ⟨#[]⟩, .string ⟨#[]⟩, .int .i64 0, .int .i64 0, .int .i64 0, .string ⟨#[]⟩, .int .i64 0, .int .i64 0] 39)) (.cells #[.int .i64 0, .string ⟨#[]⟩, .string ⟨#[]⟩, .bool false, .int .i64 0, .slice none 0 0, .slice none 0 0, .string ⟨#[]⟩, .string ⟨#[]⟩, .int .i64 0, .int .i64 0, .int .i64 0, .string ⟨#[]⟩, .int .i64 0, .int .i64 0] 39)) := ⟨_, rfl⟩
          have ga : Below w4.heap.size w4 gw := by rw [hgw]; exact (alloc2_below _ _ _)
          have gz0 : HB (w4.heap.size) (.cells #[.int .i64 0, .string ⟨#[]⟩, .string ⟨#[]⟩, .bool false, .int .i64 0, .slice none 0 0, .slice none 0 0, .string ⟨#[]⟩, .string ⟨#[]⟩, .int .i64 0, .int .i64 0, .int .i64 0, .string ⟨#[]⟩, .int .i64 0, .int .i64 0] 39) gw := by rw [hgw]; exact (HB.fst _ _ w4)
          have gz1 : HB (w4.heap.size + 1) (.cells #[.int .i64 0, .string ⟨#[]⟩, .string ⟨#[]⟩, .bool false, .int .i64 0, .slice none 0 0, .slice none 0 0, .string ⟨#[]⟩, .string ⟨#[]⟩, .int .i64 0, .int .i64 0, .int .i64 0, .string ⟨#[]⟩, .int .i64 0, .int .i64 0] 39) gw := by rw [hgw]; exact (HB.snd _ _ w4)
          have gb : Below w4.heap.size w4 (World.setCells gw (w4.heap.size) 0 (#[.int .i64 9, .string ⟨#[]⟩, .string ⟨#[]⟩, .bool false, .int .i64 0, .slice ra 0 rc, .slice ea 0 ec, .string kx, .string ⟨#[]⟩, .int .i64 page, .int .i64 0, .int .i64 0, .string ⟨#[]⟩, .int .i64 0, .int .i64 0] : Array Value).toList) := below_setCells (b := w4.heap.size) (by omega) (#[.int .i64 9, .string ⟨#[]⟩, .string ⟨#[]⟩, .bool false, .int .i64 0, .slice ra 0 rc, .slice ea 0 ec, .string kx, .string ⟨#[]⟩, .int .i64 page, .int .i64 0, .int .i64 0, .string ⟨#[]⟩, .int .i64 0, .int .i64 0] : Array Value).toList 0 _ ga
          have gy0 : HB (w4.heap.size) (.cells (#[.int .i64 9, .string ⟨#[]⟩, .string ⟨#[]⟩, .bool false, .int .i64 0, .slice ra 0 rc, .slice ea 0 ec, .string kx, .string ⟨#[]⟩, .int .i64 page, .int .i64 0, .int .i64 0, .string ⟨#[]⟩, .int .i64 0, .int .i64 0] : Array Value) 39) (World.setCells gw (w4.heap.size) 0 (#[.int .i64 9, .string ⟨#[]⟩, .string ⟨#[]⟩, .bool false, .int .i64 0, .slice ra 0 rc, .slice ea 0 ec, .string kx, .string ⟨#[]⟩, .int .i64 page, .int .i64 0, .int .i64 0, .string ⟨#[]⟩, .int .i64 0, .int .i64 0] : Array Value).toList) := gz0.sets (#[.int .i64 9, .string ⟨#[]⟩, .string ⟨#[]⟩, .bool false, .int .i64 0, .slice ra 0 rc, .slice ea 0 ec, .string kx, .string ⟨#[]⟩, .int .i64 page, .int .i64 0, .int .i64 0, .string ⟨#[]⟩, .int .i64 0, .int .i64 0] : Array Value).toList rfl
          have gx1 : HB (w4.heap.size + 1) (.cells #[.int .i64 0, .string ⟨#[]⟩, .string ⟨#[]⟩, .bool false, .int .i64 0, .slice none 0 0, .slice none 0 0, .string ⟨#[]⟩, .string ⟨#[]⟩, .int .i64 0, .int .i64 0, .int .i64 0, .string ⟨#[]⟩, .int .i64 0, .int .i64 0] 39) (World.setCells gw (w4.heap.size) 0 (#[.int .i64 9, .string ⟨#[]⟩, .string ⟨#[]⟩, .bool false, .int .i64 0, .slice ra 0 rc, .slice ea 0 ec, .string kx, .string ⟨#[]⟩, .int .i64 page, .int .i64 0, .int .i64 0, .string ⟨#[]⟩, .int .i64 0, .int .i64 0] : Array Value).toList) := gz1.off (b2 := w4.heap.size) (by omega) (#[.int .i64 9, .string ⟨#[]⟩, .string ⟨#[]⟩, .bool false, .int .i64 0, .slice ra 0 rc, .slice ea 0 ec, .string kx, .string ⟨#[]⟩, .int .i64 page, .int .i64 0, .int .i64 0, .string ⟨#[]⟩, .int .i64 0, .int .i64 0] : Array Value).toList 0
          have hs : Below w4.heap.size w4 (World.setCells (World.setCells gw (w4.heap.size) 0 (#[.int .i64 9, .string ⟨#[]⟩, .string ⟨#[]⟩, .bool false, .int .i64 0, .slice ra 0 rc, .slice ea 0 ec, .string kx, .string ⟨#[]⟩, .int .i64 page, .int .i64 0, .int .i64 0, .string ⟨#[]⟩, .int .i64 0, .int .i64 0] : Array Value).toList) (w4.heap.size + 1) 0 (#[.int .i64 7, .string kx, .string v.high, .bool v.unb, .int .i64 v.right, .slice rb 0 rq, .slice eb rt.length eq, .string ⟨#[]⟩, .string ⟨#[]⟩, .int .i64 0, .int .i64 0, .int .i64 0, .string ⟨#[]⟩, .int .i64 0, .int .i64 0] : Array Value).toList) := below_setCells (b := w4.heap.size + 1) (by omega) (#[.int .i64 7, .string kx, .string v.high, .bool v.unb, .int .i64 v.right, .slice rb 0 rq, .slice eb rt.length eq, .string ⟨#[]⟩, .string ⟨#[]⟩, .int .i64 0, .int .i64 0, .int .i64 0, .string ⟨#[]⟩, .int .i64 0, .int .i64 0] : Array Value).toList 0 _ gb
          have gu0 : HB (w4.heap.size) (.cells (#[.int .i64 9, .string ⟨#[]⟩, .string ⟨#[]⟩, .bool false, .int .i64 0, .slice ra 0 rc, .slice ea 0 ec, .string kx, .string ⟨#[]⟩, .int .i64 page, .int .i64 0, .int .i64 0, .string ⟨#[]⟩, .int .i64 0, .int .i64 0] : Array Value) 39) (World.setCells (World.setCells gw (w4.heap.size) 0 (#[.int .i64 9, .string ⟨#[]⟩, .string ⟨#[]⟩, .bool false, .int .i64 0, .slice ra 0 rc, .slice ea 0 ec, .string kx, .string ⟨#[]⟩, .int .i64 page, .int .i64 0, .int .i64 0, .string ⟨#[]⟩, .int .i64 0, .int .i64 0] : Array Value).toList) (w4.heap.size + 1) 0 (#[.int .i64 7, .string kx, .string v.high, .bool v.unb, .int .i64 v.right, .slice rb 0 rq, .slice eb rt.length eq, .string ⟨#[]⟩, .string ⟨#[]⟩, .int .i64 0, .int .i64 0, .int .i64 0, .string ⟨#[]⟩, .int .i64 0, .int .i64 0] : Array Value).toList) := gy0.off (b2 := w4.heap.size + 1) (by omega) (#[.int .i64 7, .string kx, .string v.high, .bool v.unb, .int .i64 v.right, .slice rb 0 rq, .slice eb rt.length eq, .string ⟨#[]⟩, .string ⟨#[]⟩, .int .i64 0, .int .i64 0, .int .i64 0, .string ⟨#[]⟩, .int .i64 0, .int .i64 0] : Array Value).toList 0
          have gu1 : HB (w4.heap.size + 1) (.cells (#[.int .i64 7, .string kx, .string v.high, .bool v.unb, .int .i64 v.right, .slice rb 0 rq, .slice eb rt.length eq, .string ⟨#[]⟩, .string ⟨#[]⟩, .int .i64 0, .int .i64 0, .int .i64 0, .string ⟨#[]⟩, .int .i64 0, .int .i64 0] : Array Value) 39) (World.setCells (World.setCells gw (w4.heap.size) 0 (#[.int .i64 9, .string ⟨#[]⟩, .string ⟨#[]⟩, .bool false, .int .i64 0, .slice ra 0 rc, .slice ea 0 ec, .string kx, .string ⟨#[]⟩, .int .i64 page, .int .i64 0, .int .i64 0, .string ⟨#[]⟩, .int .i64 0, .int .i64 0] : Array Value).toList) (w4.heap.size + 1) 0 (#[.int .i64 7, .string kx, .string v.high, .bool v.unb, .int .i64 v.right, .slice rb 0 rq, .slice eb rt.length eq, .string ⟨#[]⟩, .string ⟨#[]⟩, .int .i64 0, .int .i64 0, .int .i64 0, .string ⟨#[]⟩, .int .i64 0, .int .i64 0] : Array Value).toList) := gx1.sets (#[.int .i64 7, .string kx, .string v.high, .bool v.unb, .int .i64 v.right, .slice rb 0 rq, .slice eb rt.length eq, .string ⟨#[]⟩, .string ⟨#[]⟩, .int .i64 0, .int .i64 0, .int .i64 0, .string ⟨#[]⟩, .int .i64 0, .int .i64 0] : Array Value).toList rfl
          have L6 := Lib.hid (L5.out.below hs)
          have B6 := Lib.hid (B5.out.trans (hs.mono B5.out.size))
          have X4 := Lib.hid (X3.out.below hs)
          have E3 := Lib.hid (E2.out.below hs)
          have V2 := Lib.hid (V1.out.below hs)
          have H2 := Lib.hid (H1.out.below hs)
          have J1 := Lib.hid (J0.out.below hs)
          have I1 := Lib.hid (I0.out.below hs)
          clear L5 B5 X3 E2 V1 H1 J0 I0
          have SA0 := Lib.hid (gu0)
          have SB0 := Lib.hid (gu1)
          clear ga gb gy0 gu0 gu1 gz1 hs
          obtain ⟨dw, xv, hd1, hd2, hd3, hd4, hd5, hd6, hd7, hd8, hd9, hd10, hd11⟩ := DM.out
          have CY := Lib.hid (code_yes (all_cons (r := splitI9 kx page) rfl HC.out) hd1)
          have CX := Lib.hid (code_yes (l := [baseI7 kx v.high v.unb v.right rt]) rfl hd2)
          have GW := Lib.hid (goodI_fold hd1)
          have GX := Lib.hid (goodI_fold hd2)
          have P3 := Lib.hid (And.intro hd3 hd4)
          have P5 := Lib.hid (And.intro hd5 hd6)
          have P7 := Lib.hid (And.intro hd7 (And.intro hd8 hd9))
          have PE := Lib.hid hd10
          have PC := Lib.hid hd11
          obtain ⟨m2, hm2⟩ : ∃ n, dw.ents.length = n := ⟨_, rfl⟩
          have HM2 := Lib.hid hm2
          obtain ⟨m3, hm3⟩ : ∃ n, xv.ents.length = n := ⟨_, rfl⟩
          have HM3 := Lib.hid hm3
          have L23 := Lib.hid (show dw.ents.length ≤ 1000 ∧ xv.ents.length ≤ 1000 from by have h := congrArg List.length hd10; rw [List.length_append] at h; have := HL.out; omega)
          clear hd1 hd2 hd3 hd4 hd5 hd6 hd7 hd8 hd9 hd10 hd11 hm2 hm3
          go_wp2_with (first | (rw [← hgw]; refine wpList_store_mid rfl 39 (.tmp 9) (.tmp 41) rfl (w4.heap.size) 0 (#[.int .i64 9, .string ⟨#[]⟩, .string ⟨#[]⟩, .bool false, .int .i64 0, .slice ra 0 rc, .slice ea 0 ec, .string kx, .string ⟨#[]⟩, .int .i64 page, .int .i64 0, .int .i64 0, .string ⟨#[]⟩, .int .i64 0, .int .i64 0] : Array Value) rfl rfl ?_ recInfoS (by as_aux_lemma => kernel_rfl) ?_; exact gz0.there 15 (Nat.le_refl _); clear gz0) | (refine wpList_store_mid rfl 39 (.tmp 10) (.tmp 42) rfl (w4.heap.size + 1) 0 (#[.int .i64 7, .string kx, .string v.high, .bool v.unb, .int .i64 v.right, .slice rb 0 rq, .slice eb rt.length eq, .string ⟨#[]⟩, .string ⟨#[]⟩, .int .i64 0, .int .i64 0, .int .i64 0, .string ⟨#[]⟩, .int .i64 0, .int .i64 0] : Array Value) rfl rfl ?_ recInfoS (by as_aux_lemma => kernel_rfl) ?_; exact gx1.there 15 (Nat.le_refl _); clear gx1; generalize hG : World.setCells (World.setCells _ _ _ _) _ _ _ = w5 at *; clear hG hgw))
          have S_L := L6
          have S_B := B6
          have S_X := X4
          have S_E := E3
          have S_V := V2
          have S_H := H2
          have S_J := J1
          have S_I := I1
          have S_SA := SA0
          have S_SB := SB0
          have W0 := Lib.hid (Below.refl w5.heap.size w5)
          have HSL := Lib.hid (show ∀ w', Below w5.heap.size w5 w' → (fun w' => w'.cell? ⟨w4.heap.size, 0, none⟩ = some (.int .i64 9) ∧ w'.cell? ⟨w4.heap.size, 1, none⟩ = some (.string ⟨#[]⟩) ∧ w'.cell? ⟨w4.heap.size, 2, none⟩ = some (.string ⟨#[]⟩) ∧ w'.cell? ⟨w4.heap.size, 3, none⟩ = some (.bool false) ∧ w'.cell? ⟨w4.heap.size, 4, none⟩ = some (.int .i64 0) ∧ w'.cell? ⟨w4.heap.size, 5, none⟩ = some (.slice ra 0 rc) ∧ w'.cell? ⟨w4.heap.size, 6, none⟩ = some (.slice ea 0 ec) ∧ w'.cell? ⟨w4.heap.size, 7, none⟩ = some (.string kx) ∧ w'.cell? ⟨w4.heap.size, 8, none⟩ = some (.string ⟨#[]⟩) ∧ w'.cell? ⟨w4.heap.size, 9, none⟩ = some (.int .i64 page) ∧ w'.cell? ⟨w4.heap.size, 10, none⟩ = some (.int .i64 0) ∧ w'.cell? ⟨w4.heap.size, 11, none⟩ = some (.int .i64 0) ∧ w'.cell? ⟨w4.heap.size, 12, none⟩ = some (.string ⟨#[]⟩) ∧ w'.cell? ⟨w4.heap.size, 13, none⟩ = some (.int .i64 0) ∧ w'.cell? ⟨w4.heap.size, 14, none⟩ = some (.int .i64 0)) w' from fun w' hs => by have V := S_SA.out.below hs; exact ⟨V.cell 0, V.cell 1, V.cell 2, V.cell 3, V.cell 4, V.cell 5, V.cell 6, V.cell 7, V.cell 8, V.cell 9, V.cell 10, V.cell 11, V.cell 12, V.cell 13, V.cell 14⟩)
          have FL := Lib.hid (show ds.length ≤ 1000 by have := FW.out.1; omega)
          go_cut [12, 13] from 22 (fun sp se wcA => ∃ (nb : Nat) (za : Option Addr) (zc : Nat), sp = .pointer (some ⟨nb, 0, none⟩) ∧ se = .nilIface ∧ VB nb dw (.slice za m2 zc) wcA ∧ OwnS lEnt w5.heap.size wcA (.slice za m2 zc) (dw : IvD).ents ∧ SzI dw ∧ Below w5.heap.size w5 wcA)
          case first =>
            refine AnyBut.region (fun w' => w'.cell? ⟨w4.heap.size, 0, none⟩ = some (.int .i64 9) ∧ w'.cell? ⟨w4.heap.size, 1, none⟩ = some (.string ⟨#[]⟩) ∧ w'.cell? ⟨w4.heap.size, 2, none⟩ = some (.string ⟨#[]⟩) ∧ w'.cell? ⟨w4.heap.size, 3, none⟩ = some (.bool false) ∧ w'.cell? ⟨w4.heap.size, 4, none⟩ = some (.int .i64 0) ∧ w'.cell? ⟨w4.heap.size, 5, none⟩ = some (.slice ra 0 rc) ∧ w'.cell? ⟨w4.heap.size, 6, none⟩ = some (.slice ea 0 ec) ∧ w'.cell? ⟨w4.heap.size, 7, none⟩ = some (.string kx) ∧ w'.cell? ⟨w4.heap.size, 8, none⟩ = some (.string ⟨#[]⟩) ∧ w'.cell? ⟨w4.heap.size, 9, none⟩ = some (.int .i64 page) ∧ w'.cell? ⟨w4.heap.size, 10, none⟩ = some (.int .i64 0) ∧ w'.cell? ⟨w4.heap.size, 11, none⟩ = some (.int .i64 0) ∧ w'.cell? ⟨w4.heap.size, 12, none⟩ = some (.string ⟨#[]⟩) ∧ w'.cell? ⟨w4.heap.size, 13, none⟩ = some (.int .i64 0) ∧ w'.cell? ⟨w4.heap.size, 14, none⟩ = some (.int .i64 0)) 11 (by as_aux_lemma => kernel_rfl) ?_
            have BB := Lib.hid (Below.refl w5.heap.size w5).drew
            have YL := Lib.hid (S_L.out.below (Below.refl _ _).drew)
            have RD := Lib.hid (S_J.out.below (Below.refl _ _).drew)
            have LS := Lib.hid (show w5.drew.heap.size = w5.heap.size from rfl)
            obtain ⟨q0, hq0⟩ : ∃ W, W = World.drew w5 := ⟨_, rfl⟩
            rw [← hq0] at BB YL LS RD ⊢
            clear hq0
            have SD := Lib.hid (HSL.out q0 BB.out)
            refine AnyBut.take (i := 0) (oi := ⟨some 52, _, _, _, _, none⟩) (v := ?vA0) rfl (by as_aux_lemma => kernel_rfl) (by as_aux_lemma => kernel_rfl) (by as_aux_lemma => kernel_rfl) (by as_aux_lemma => kernel_rfl) (fun _ _ _ h => h) (Or.inl ⟨by as_aux_lemma => rfl, ?hyA0⟩) SD.out ?restA0
            case hyA0 => (intro w hSw; go_simp; try (with_reducible rfl))
            simp only [Act.put, List.setIfInBounds_toArray, List.set_cons_zero, List.set_cons_succ]
            refine AnyBut.take (i := 2) (oi := ⟨some 54, _, _, _, _, none⟩) (v := ?vA2) rfl (by as_aux_lemma => kernel_rfl) (by as_aux_lemma => kernel_rfl) (by as_aux_lemma => kernel_rfl) (by as_aux_lemma => kernel_rfl) (fun _ _ _ h => h) (Or.inl ⟨by as_aux_lemma => rfl, ?hyA2⟩) SD.out ?restA2
            case hyA2 => (intro w hSw; go_simp; try (with_reducible rfl))
            simp only [Act.put, List.setIfInBounds_toArray, List.set_cons_zero, List.set_cons_succ]
            clear SD
            refine AnyBut.three (i := 1) (j := 3) (k := 9) (o := ⟨some 53, _, _, _, _, none⟩) (u := ⟨some 55, _, _, _, _, none⟩) (x := ⟨some 12, _, _, _, _, none⟩) (by as_aux_lemma => kernel_rfl) rfl rfl rfl (fun K hK => ?_) (fun K hK => ?_) (fun K hK => ?_)
            · have hb := alloc_below0 q0 (.cells #[.int .i64 9, .string ⟨#[]⟩, .string ⟨#[]⟩, .bool false, .int .i64 0, .slice ra 0 rc, .slice ea 0 ec, .string kx, .string ⟨#[]⟩, .int .i64 page, .int .i64 0, .int .i64 0, .string ⟨#[]⟩, .int .i64 0, .int .i64 0] 39)
              have KB := Lib.hid (HB.new (.cells #[.int .i64 9, .string ⟨#[]⟩, .string ⟨#[]⟩, .bool false, .int .i64 0, .slice ra 0 rc, .slice ea 0 ec, .string kx, .string ⟨#[]⟩, .int .i64 page, .int .i64 0, .int .i64 0, .string ⟨#[]⟩, .int .i64 0, .int .i64 0] 39) q0)
              have NZ := Lib.hid (show w5.heap.size ≤ q0.heap.size from BB.out.size)
              have NB := Lib.hid NZ.out
              have BB := Lib.hid (BB.out.trans (hb.mono BB.out.size))
              have RD := Lib.hid (RD.out.below hb)
              have YL := Lib.hid (YL.out.below hb)
              have SN := HSL.out _ BB.out
              go_simp
              refine hK.out _ _ (fun _ => SN) ?_
              clear hK K SN hb NZ
              generalize hG : World.alloc q0 _ = q1 at BB RD YL KB ⊢
              clear hG
              try simp only [Act.put, List.setIfInBounds_toArray, List.set_cons_zero, List.set_cons_succ]
              refine AnyBut.two (i := 3) (j := 9) (o := ⟨some 55, _, _, _, _, none⟩) (u := ⟨some 12, _, _, _, _, none⟩) (by as_aux_lemma => kernel_rfl) rfl rfl (fun K hK => ?_) (fun K hK => ?_)
              · go_simp
                refine (ownI_any u ds q1 YL.out FL.out).mono ?_
                rintro ev q2 ⟨y, dy, rfl, hy, hr, hs⟩
                have RY := Lib.hid hr
                have YY := Lib.hid (hy.mono BB.out.size)
                have BB := Lib.hid (BB.out.trans (hs.mono BB.out.size))
                have RD := Lib.hid (RD.out.below hs)
                have KB := Lib.hid (KB.out.below hs)
                have SN := HSL.out _ BB.out
                clear hy hr hs YL
                refine hK.out _ _ (fun _ => SN) ?_
                clear hK K SN
                try simp only [Act.put, List.setIfInBounds_toArray, List.set_cons_zero, List.set_cons_succ]
                refine AnyBut.two (i := 4) (j := 9) (o := ⟨some 56, _, _, _, _, none⟩) (u := ⟨some 12, _, _, _, _, none⟩) (by as_aux_lemma => kernel_rfl) rfl rfl (fun K hK => ?_) (fun K hK => ?_)
                · have PP := ChO.of_rec (base := w.heap.size) (d := (⟨(⟨9, ⟨#[]⟩, ⟨#[]⟩, false, 0, kx, ⟨#[]⟩, page, 0, 0, ⟨#[]⟩, 0, 0⟩ : Sc), ra, rc, ea, ec, [], []⟩ : RcD)) (Nat.le_trans S_B.out.size NB.out) KB.out RD.out
                  have PO := OwnS.of_rec (base := w5.heap.size) (d := (⟨(⟨9, ⟨#[]⟩, ⟨#[]⟩, false, 0, kx, ⟨#[]⟩, page, 0, 0, ⟨#[]⟩, 0, 0⟩ : Sc), ra, rc, ea, ec, [], []⟩ : RcD)) NB.out KB.out
                  refine step_appS lRec 22 Try.underlying22 lRec_known (by decide) (by decide) rfl (.tmp 53) (.tmp 55) rfl w5.heap.size rfl rfl PO YY.out.own.sv (by have := (few_read FW.out RY.out).1; simp; omega) BB.out.size ?_
                  intro v7 q3 ho hg
                  have QQ := Lib.hid (PP.append YY.out S_B.out.size (ho.mono S_B.out.size) hg)
                  have BB := Lib.hid (BB.out.grown hg BB.out.size (fun k hk => (World.ownsRow.lt PO k hk).1))
                  have SN := HSL.out _ BB.out
                  clear PP PO ho hg KB YY NB RD
                  refine hK.out _ _ (fun _ => SN) ?_
                  clear hK K SN
                  try simp only [Act.put, List.setIfInBounds_toArray, List.set_cons_zero, List.set_cons_succ]
                  refine AnyBut.two (i := 5) (j := 9) (o := ⟨some 57, _, _, _, _, none⟩) (u := ⟨some 12, _, _, _, _, none⟩) (by as_aux_lemma => kernel_rfl) rfl rfl (fun K hK => ?_) (fun K hK => ?_)
                  · have RQ := (show readC ([(⟨(⟨9, ⟨#[]⟩, ⟨#[]⟩, false, 0, kx, ⟨#[]⟩, page, 0, 0, ⟨#[]⟩, 0, 0⟩ : Sc), ra, rc, ea, ec, [], []⟩ : RcD)] ++ dy) = splitI9 kx page :: readC ds by (rw [readC_app, RY.out]; rfl))
                    have e1 := (show ([(⟨(⟨9, ⟨#[]⟩, ⟨#[]⟩, false, 0, kx, ⟨#[]⟩, page, 0, 0, ⟨#[]⟩, 0, 0⟩ : Sc), ra, rc, ea, ec, [], []⟩ : RcD)] ++ dy).length ≤ 100 by (have := (few_read FW.out RY.out).1; simp; omega))
                    have e2 := (show (([(⟨(⟨9, ⟨#[]⟩, ⟨#[]⟩, false, 0, kx, ⟨#[]⟩, page, 0, 0, ⟨#[]⟩, 0, 0⟩ : Sc), ra, rc, ea, ec, [], []⟩ : RcD)] ++ dy).map fun d => d.ents.length).sum ≤ 1000 by (have := (few_read FW.out RY.out).2; simp; omega))
                    go_simp
                    refine (C.fold _ _ _ q3 QQ.out e1 e2).mono ?_
                    rintro ev q4 ⟨en2, rfl, hen, hsz, hs⟩
                    rw [RQ, CY.out.2] at hen hsz
                    rw [RQ, CY.out.1, CY.out.2, errV_zero rfl]
                    obtain ⟨za, zc, rfl, -, -⟩ := hen.lenN HM2.out
                    unfold ivVal
                    have EE := Lib.hid (hen.mono BB.out.size)
                    have ZZ := Lib.hid hsz
                    have BB := Lib.hid (BB.out.trans (hs.mono BB.out.size))
                    have SN := HSL.out _ BB.out
                    clear hen hsz hs RQ e1 e2 QQ
                    refine hK.out _ _ (fun _ => SN) ?_
                    clear hK K SN
                    have SX := Lib.hid (HSL.out _ BB.out)
                    refine AnyBut.take (i := 6) (oi := ⟨some 51, _, _, _, _, none⟩) (v := ?vAx16) rfl (by as_aux_lemma => kernel_rfl) (by as_aux_lemma => kernel_rfl) (by as_aux_lemma => kernel_rfl) (by as_aux_lemma => kernel_rfl) (fun _ _ _ h => h) (Or.inl ⟨by as_aux_lemma => rfl, ?hyAx16⟩) SX.out ?restAx16
                    case hyAx16 => (intro w hSw; go_simp; try (with_reducible rfl))
                    simp only [Act.put, List.setIfInBounds_toArray, List.set_cons_zero, List.set_cons_succ]
                    refine AnyBut.take (i := 7) (oi := ⟨some 58, _, _, _, _, none⟩) (v := ?vAx17) rfl (by as_aux_lemma => kernel_rfl) (by as_aux_lemma => kernel_rfl) (by as_aux_lemma => kernel_rfl) (by as_aux_lemma => kernel_rfl) (fun _ _ _ h => h) (Or.inl ⟨by as_aux_lemma => rfl, ?hyAx17⟩) SX.out ?restAx17
                    case hyAx17 => (intro w hSw; go_simp; try (with_reducible rfl))
                    simp only [Act.put, List.setIfInBounds_toArray, List.set_cons_zero, List.set_cons_succ]
                    refine AnyBut.take (i := 8) (oi := ⟨some 59, _, _, _, _, none⟩) (v := ?vAx18) rfl (by as_aux_lemma => kernel_rfl) (by as_aux_lemma => kernel_rfl) (by as_aux_lemma => kernel_rfl) (by as_aux_lemma => kernel_rfl) (fun _ _ _ h => h) (Or.inl ⟨by as_aux_lemma => rfl, ?hyAx18⟩) SX.out ?restAx18
                    case hyAx18 => (intro w hSw; go_simp; try (with_reducible rfl))
                    simp only [Act.put, List.setIfInBounds_toArray, List.set_cons_zero, List.set_cons_succ]
                    clear SX
                    refine AnyBut.one (i := 9) (o := ⟨some 12, _, _, _, _, none⟩) (by as_aux_lemma => kernel_rfl) rfl (fun K hK => ?_)
                    have hb := alloc_below0 q4 (.cells #[.string ⟨#[]⟩, .string ⟨#[]⟩, .bool false, .int .i64 0, .slice none 0 0, .bool false, .int .i64 0, .int .i64 0, .string ⟨#[]⟩] 29)
                    have KA := Lib.hid (HB.new (.cells #[.string ⟨#[]⟩, .string ⟨#[]⟩, .bool false, .int .i64 0, .slice none 0 0, .bool false, .int .i64 0, .int .i64 0, .string ⟨#[]⟩] 29) q4)
                    have NZ := Lib.hid (show w5.heap.size ≤ q4.heap.size from BB.out.size)
                    have NA := Lib.hid NZ.out
                    have BB := Lib.hid (BB.out.trans (hb.mono BB.out.size))
                    have EE := Lib.hid (EE.out.below hb)
                    have SN := HSL.out _ BB.out
                    go_simp
                    refine hK.out _ _ (fun _ => SN) ?_
                    clear hK K SN hb NZ
                    generalize hG : World.alloc q4 _ = q5 at BB KA EE ⊢
                    clear hG
                    try simp only [Act.put, List.setIfInBounds_toArray, List.set_cons_zero, List.set_cons_succ]
                    have KS := KA.out.sets (ivCells dw (.slice za m2 zc)) rfl
                    have ES := EE.out.kept (Kept.setCells (ivCells dw (.slice za m2 zc)) 0 _ (Kept.refl (fun x => x = _) _)) (EE.out.apart KA.out (show lEnt.ty ≠ 29 by decide))
                    have BS := below_setCells NA.out (ivCells dw (.slice za m2 zc)) 0 _ BB.out
                    have SN := HSL.out _ BS
                    refine AnyBut.one (i := 10) (o := ⟨none, _, _, _, _, none⟩) (by as_aux_lemma => kernel_rfl) rfl (fun K hK => ?_)
                    rw [if_pos (by as_aux_lemma => rfl)]
                    refine wp_store_mid 29 (.tmp 12) (.tmp 58) rfl _ 0 (ivCells dw (.slice za m2 zc)).toArray rfl rfl (KA.out.there 9 (Nat.le_refl _)) ivInfoS (iv_one _ _ _ _) ?_
                    refine hK.out _ _ (fun _ => SN) ?_
                    clear hK K
                    try simp only [Act.put]
                    refine AnyBut.one (i := 11) (o := ⟨some 13, _, _, _, _, none⟩) (by as_aux_lemma => kernel_rfl) rfl (fun K hK => ?_)
                    go_simp
                    refine hK.out _ _ (fun h => absurd rfl h) ?_
                    clear hK K
                    try simp only [Act.put, List.setIfInBounds_toArray, List.set_cons_zero, List.set_cons_succ]
                    refine AnyBut.done (by as_aux_lemma => kernel_rfl) ?_ _
                    go_wp2
                    go_meet
                    case rel => exact ⟨_, za, zc, rfl, rfl, HB.vb KS, ES, ZZ.out, BS⟩
                  · have hb := alloc_below0 q3 (.cells #[.string ⟨#[]⟩, .string ⟨#[]⟩, .bool false, .int .i64 0, .slice none 0 0, .bool false, .int .i64 0, .int .i64 0, .string ⟨#[]⟩] 29)
                    have KA := Lib.hid (HB.new (.cells #[.string ⟨#[]⟩, .string ⟨#[]⟩, .bool false, .int .i64 0, .slice none 0 0, .bool false, .int .i64 0, .int .i64 0, .string ⟨#[]⟩] 29) q3)
                    have NZ := Lib.hid (show w5.heap.size ≤ q3.heap.size from BB.out.size)
                    have NA := Lib.hid NZ.out
                    have BB := Lib.hid (BB.out.trans (hb.mono BB.out.size))
                    have QQ := Lib.hid (QQ.out.below hb)
                    have SN := HSL.out _ BB.out
                    go_simp
                    refine hK.out _ _ (fun _ => SN) ?_
                    clear hK K SN hb NZ
                    generalize hG : World.alloc q3 _ = q6 at BB KA QQ ⊢
                    clear hG
                    try simp only [Act.put, List.setIfInBounds_toArray, List.set_cons_zero, List.set_cons_succ]
                    refine AnyBut.one (i := 5) (o := ⟨some 57, _, _, _, _, none⟩) (by as_aux_lemma => kernel_rfl) rfl (fun K hK => ?_)
                    have RQ := (show readC ([(⟨(⟨9, ⟨#[]⟩, ⟨#[]⟩, false, 0, kx, ⟨#[]⟩, page, 0, 0, ⟨#[]⟩, 0, 0⟩ : Sc), ra, rc, ea, ec, [], []⟩ : RcD)] ++ dy) = splitI9 kx page :: readC ds by (rw [readC_app, RY.out]; rfl))
                    have e1 := (show ([(⟨(⟨9, ⟨#[]⟩, ⟨#[]⟩, false, 0, kx, ⟨#[]⟩, page, 0, 0, ⟨#[]⟩, 0, 0⟩ : Sc), ra, rc, ea, ec, [], []⟩ : RcD)] ++ dy).length ≤ 100 by (have := (few_read FW.out RY.out).1; simp; omega))
                    have e2 := (show (([(⟨(⟨9, ⟨#[]⟩, ⟨#[]⟩, false, 0, kx, ⟨#[]⟩, page, 0, 0, ⟨#[]⟩, 0, 0⟩ : Sc), ra, rc, ea, ec, [], []⟩ : RcD)] ++ dy).map fun d => d.ents.length).sum ≤ 1000 by (have := (few_read FW.out RY.out).2; simp; omega))
                    go_simp
                    refine (C.fold _ _ _ q6 QQ.out e1 e2).mono ?_
                    rintro ev q7 ⟨en2, rfl, hen, hsz, hs⟩
                    rw [RQ, CY.out.2] at hen hsz
                    rw [RQ, CY.out.1, CY.out.2, errV_zero rfl]
                    obtain ⟨za, zc, rfl, -, -⟩ := hen.lenN HM2.out
                    unfold ivVal
                    have EE := Lib.hid (hen.mono BB.out.size)
                    have ZZ := Lib.hid hsz
                    have BB := Lib.hid (BB.out.trans (hs.mono BB.out.size))
                    have KA := Lib.hid (KA.out.below hs)
                    have SN := HSL.out _ BB.out
                    clear hen hsz hs RQ e1 e2 QQ
                    refine hK.out _ _ (fun _ => SN) ?_
                    clear hK K SN
                    have SX := Lib.hid (HSL.out _ BB.out)
                    refine AnyBut.take (i := 6) (oi := ⟨some 51, _, _, _, _, none⟩) (v := ?vAx26) rfl (by as_aux_lemma => kernel_rfl) (by as_aux_lemma => kernel_rfl) (by as_aux_lemma => kernel_rfl) (by as_aux_lemma => kernel_rfl) (fun _ _ _ h => h) (Or.inl ⟨by as_aux_lemma => rfl, ?hyAx26⟩) SX.out ?restAx26
                    case hyAx26 => (intro w hSw; go_simp; try (with_reducible rfl))
                    simp only [Act.put, List.setIfInBounds_toArray, List.set_cons_zero, List.set_cons_succ]
                    refine AnyBut.take (i := 7) (oi := ⟨some 58, _, _, _, _, none⟩) (v := ?vAx27) rfl (by as_aux_lemma => kernel_rfl) (by as_aux_lemma => kernel_rfl) (by as_aux_lemma => kernel_rfl) (by as_aux_lemma => kernel_rfl) (fun _ _ _ h => h) (Or.inl ⟨by as_aux_lemma => rfl, ?hyAx27⟩) SX.out ?restAx27
                    case hyAx27 => (intro w hSw; go_simp; try (with_reducible rfl))
                    simp only [Act.put, List.setIfInBounds_toArray, List.set_cons_zero, List.set_cons_succ]
                    refine AnyBut.take (i := 8) (oi := ⟨some 59, _, _, _, _, none⟩) (v := ?vAx28) rfl (by as_aux_lemma => kernel_rfl) (by as_aux_lemma => kernel_rfl) (by as_aux_lemma => kernel_rfl) (by as_aux_lemma => kernel_rfl) (fun _ _ _ h => h) (Or.inl ⟨by as_aux_lemma => rfl, ?hyAx28⟩) SX.out ?restAx28
                    case hyAx28 => (intro w hSw; go_simp; try (with_reducible rfl))
                    simp only [Act.put, List.setIfInBounds_toArray, List.set_cons_zero, List.set_cons_succ]
                    clear SX
                    have KS := KA.out.sets (ivCells dw (.slice za m2 zc)) rfl
                    have ES := EE.out.kept (Kept.setCells (ivCells dw (.slice za m2 zc)) 0 _ (Kept.refl (fun x => x = _) _)) (EE.out.apart KA.out (show lEnt.ty ≠ 29 by decide))
                    have BS := below_setCells NA.out (ivCells dw (.slice za m2 zc)) 0 _ BB.out
                    have SN := HSL.out _ BS
                    refine AnyBut.one (i := 10) (o := ⟨none, _, _, _, _, none⟩) (by as_aux_lemma => kernel_rfl) rfl (fun K hK => ?_)
                    rw [if_pos (by as_aux_lemma => rfl)]
                    refine wp_store_mid 29 (.tmp 12) (.tmp 58) rfl _ 0 (ivCells dw (.slice za m2 zc)).toArray rfl rfl (KA.out.there 9 (Nat.le_refl _)) ivInfoS (iv_one _ _ _ _) ?_
                    refine hK.out _ _ (fun _ => SN) ?_
                    clear hK K
                    try simp only [Act.put]
                    refine AnyBut.one (i := 11) (o := ⟨some 13, _, _, _, _, none⟩) (by as_aux_lemma => kernel_rfl) rfl (fun K hK => ?_)
                    go_simp
                    refine hK.out _ _ (fun h => absurd rfl h) ?_
                    clear hK K
                    try simp only [Act.put, List.setIfInBounds_toArray, List.set_cons_zero, List.set_cons_succ]
                    refine AnyBut.done (by as_aux_lemma => kernel_rfl) ?_ _
                    go_wp2
                    go_meet
                    case rel => exact ⟨_, za, zc, rfl, rfl, HB.vb KS, ES, ZZ.out, BS⟩
                · have hb := alloc_below0 q2 (.cells #[.string ⟨#[]⟩, .string ⟨#[]⟩, .bool false, .int .i64 0, .slice none 0 0, .bool false, .int .i64 0, .int .i64 0, .string ⟨#[]⟩] 29)
                  have KA := Lib.hid (HB.new (.cells #[.string ⟨#[]⟩, .string ⟨#[]⟩, .bool false, .int .i64 0, .slice none 0 0, .bool false, .int .i64 0, .int .i64 0, .string ⟨#[]⟩] 29) q2)
                  have NZ := Lib.hid (show w5.heap.size ≤ q2.heap.size from BB.out.size)
                  have NE := Lib.hid (show _ ≠ _ from (Nat.ne_of_gt KB.out.lt))
                  have NA := Lib.hid NZ.out
                  have BB := Lib.hid (BB.out.trans (hb.mono BB.out.size))
                  have RD := Lib.hid (RD.out.below hb)
                  have KB := Lib.hid (KB.out.below hb)
                  have YY := Lib.hid (YY.out.below hb)
                  have SN := HSL.out _ BB.out
                  go_simp
                  refine hK.out _ _ (fun _ => SN) ?_
                  clear hK K SN hb NZ
                  generalize hG : World.alloc q2 _ = q8 at BB RD KB YY KA ⊢
                  clear hG
                  try simp only [Act.put, List.setIfInBounds_toArray, List.set_cons_zero, List.set_cons_succ]
                  refine AnyBut.one (i := 4) (o := ⟨some 56, _, _, _, _, none⟩) (by as_aux_lemma => kernel_rfl) rfl (fun K hK => ?_)
                  have PP := ChO.of_rec (base := w.heap.size) (d := (⟨(⟨9, ⟨#[]⟩, ⟨#[]⟩, false, 0, kx, ⟨#[]⟩, page, 0, 0, ⟨#[]⟩, 0, 0⟩ : Sc), ra, rc, ea, ec, [], []⟩ : RcD)) (Nat.le_trans S_B.out.size NB.out) KB.out RD.out
                  have PO := OwnS.of_rec (base := w5.heap.size) (d := (⟨(⟨9, ⟨#[]⟩, ⟨#[]⟩, false, 0, kx, ⟨#[]⟩, page, 0, 0, ⟨#[]⟩, 0, 0⟩ : Sc), ra, rc, ea, ec, [], []⟩ : RcD)) NB.out KB.out
                  refine step_appS lRec 22 Try.underlying22 lRec_known (by decide) (by decide) rfl (.tmp 53) (.tmp 55) rfl w5.heap.size rfl rfl PO YY.out.own.sv (by have := (few_read FW.out RY.out).1; simp; omega) BB.out.size ?_
                  intro v7 q9 ho hg
                  have QQ := Lib.hid (PP.append YY.out S_B.out.size (ho.mono S_B.out.size) hg)
                  have KA := Lib.hid (HB.grown KA.out hg (fun h => NE.out (Option.some.inj h)))
                  have BB := Lib.hid (BB.out.grown hg BB.out.size (fun k hk => (World.ownsRow.lt PO k hk).1))
                  have SN := HSL.out _ BB.out
                  clear PP PO ho hg KB YY NB RD NE
                  refine hK.out _ _ (fun _ => SN) ?_
                  clear hK K SN
                  try simp only [Act.put, List.setIfInBounds_toArray, List.set_cons_zero, List.set_cons_succ]
                  refine AnyBut.one (i := 5) (o := ⟨some 57, _, _, _, _, none⟩) (by as_aux_lemma => kernel_rfl) rfl (fun K hK => ?_)
                  have RQ := (show readC ([(⟨(⟨9, ⟨#[]⟩, ⟨#[]⟩, false, 0, kx, ⟨#[]⟩, page, 0, 0, ⟨#[]⟩, 0, 0⟩ : Sc), ra, rc, ea, ec, [], []⟩ : RcD)] ++ dy) = splitI9 kx page :: readC ds by (rw [readC_app, RY.out]; rfl))
                  have e1 := (show ([(⟨(⟨9, ⟨#[]⟩, ⟨#[]⟩, false, 0, kx, ⟨#[]⟩, page, 0, 0, ⟨#[]⟩, 0, 0⟩ : Sc), ra, rc, ea, ec, [], []⟩ : RcD)] ++ dy).length ≤ 100 by (have := (few_read FW.out RY.out).1; simp; omega))
                  have e2 := (show (([(⟨(⟨9, ⟨#[]⟩, ⟨#[]⟩, false, 0, kx, ⟨#[]⟩, page, 0, 0, ⟨#[]⟩, 0, 0⟩ : Sc), ra, rc, ea, ec, [], []⟩ : RcD)] ++ dy).map fun d => d.ents.length).sum ≤ 1000 by (have := (few_read FW.out RY.out).2; simp; omega))
                  go_simp
                  refine (C.fold _ _ _ q9 QQ.out e1 e2).mono ?_
                  rintro ev q10 ⟨en2, rfl, hen, hsz, hs⟩
                  rw [RQ, CY.out.2] at hen hsz
                  rw [RQ, CY.out.1, CY.out.2, errV_zero rfl]
                  obtain ⟨za, zc, rfl, -, -⟩ := hen.lenN HM2.out
                  unfold ivVal
                  have EE := Lib.hid (hen.mono BB.out.size)
                  have ZZ := Lib.hid hsz
                  have BB := Lib.hid (BB.out.trans (hs.mono BB.out.size))
                  have KA := Lib.hid (KA.out.below hs)
                  have SN := HSL.out _ BB.out
                  clear hen hsz hs RQ e1 e2 QQ
                  refine hK.out _ _ (fun _ => SN) ?_
                  clear hK K SN
                  have SX := Lib.hid (HSL.out _ BB.out)
                  refine AnyBut.take (i := 6) (oi := ⟨some 51, _, _, _, _, none⟩) (v := ?vAx36) rfl (by as_aux_lemma => kernel_rfl) (by as_aux_lemma => kernel_rfl) (by as_aux_lemma => kernel_rfl) (by as_aux_lemma => kernel_rfl) (fun _ _ _ h => h) (Or.inl ⟨by as_aux_lemma => rfl, ?hyAx36⟩) SX.out ?restAx36
                  case hyAx36 => (intro w hSw; go_simp; try (with_reducible rfl))
                  simp only [Act.put, List.setIfInBounds_toArray, List.set_cons_zero, List.set_cons_succ]
                  refine AnyBut.take (i := 7) (oi := ⟨some 58, _, _, _, _, none⟩) (v := ?vAx37) rfl (by as_aux_lemma => kernel_rfl) (by as_aux_lemma => kernel_rfl) (by as_aux_lemma => kernel_rfl) (by as_aux_lemma => kernel_rfl) (fun _ _ _ h => h) (Or.inl ⟨by as_aux_lemma => rfl, ?hyAx37⟩) SX.out ?restAx37
                  case hyAx37 => (intro w hSw; go_simp; try (with_reducible rfl))
                  simp only [Act.put, List.setIfInBounds_toArray, List.set_cons_zero, List.set_cons_succ]
                  refine AnyBut.take (i := 8) (oi := ⟨some 59, _, _, _, _, none⟩) (v := ?vAx38) rfl (by as_aux_lemma => kernel_rfl) (by as_aux_lemma => kernel_rfl) (by as_aux_lemma => kernel_rfl) (by as_aux_lemma => kernel_rfl) (fun _ _ _ h => h) (Or.inl ⟨by as_aux_lemma => rfl, ?hyAx38⟩) SX.out ?restAx38
                  case hyAx38 => (intro w hSw; go_simp; try (with_reducible rfl))
                  simp only [Act.put, List.setIfInBounds_toArray, List.set_cons_zero, List.set_cons_succ]
                  clear SX
                  have KS := KA.out.sets (ivCells dw (.slice za m2 zc)) rfl
                  have ES := EE.out.kept (Kept.setCells (ivCells dw (.slice za m2 zc)) 0 _ (Kept.refl (fun x => x = _) _)) (EE.out.apart KA.out (show lEnt.ty ≠ 29 by decide))
                  have BS := below_setCells NA.out (ivCells dw (.slice za m2 zc)) 0 _ BB.out
                  have SN := HSL.out _ BS
                  refine AnyBut.one (i := 10) (o := ⟨none, _, _, _, _, none⟩) (by as_aux_lemma => kernel_rfl) rfl (fun K hK => ?_)
                  rw [if_pos (by as_aux_lemma => rfl)]
                  refine wp_store_mid 29 (.tmp 12) (.tmp 58) rfl _ 0 (ivCells dw (.slice za m2 zc)).toArray rfl rfl (KA.out.there 9 (Nat.le_refl _)) ivInfoS (iv_one _ _ _ _) ?_
                  refine hK.out _ _ (fun _ => SN) ?_
                  clear hK K
                  try simp only [Act.put]
                  refine AnyBut.one (i := 11) (o := ⟨some 13, _, _, _, _, none⟩) (by as_aux_lemma => kernel_rfl) rfl (fun K hK => ?_)
                  go_simp
                  refine hK.out _ _ (fun h => absurd rfl h) ?_
                  clear hK K
                  try simp only [Act.put, List.setIfInBounds_toArray, List.set_cons_zero, List.set_cons_succ]
                  refine AnyBut.done (by as_aux_lemma => kernel_rfl) ?_ _
                  go_wp2
                  go_meet
                  case rel => exact ⟨_, za, zc, rfl, rfl, HB.vb KS, ES, ZZ.out, BS⟩
              · have hb := alloc_below0 q1 (.cells #[.string ⟨#[]⟩, .string ⟨#[]⟩, .bool false, .int .i64 0, .slice none 0 0, .bool false, .int .i64 0, .int .i64 0, .string ⟨#[]⟩] 29)
                have KA := Lib.hid (HB.new (.cells #[.string ⟨#[]⟩, .string ⟨#[]⟩, .bool false, .int .i64 0, .slice none 0 0, .bool false, .int .i64 0, .int .i64 0, .string ⟨#[]⟩] 29) q1)
                have NZ := Lib.hid (show w5.heap.size ≤ q1.heap.size from BB.out.size)
                have NE := Lib.hid (show _ ≠ _ from (Nat.ne_of_gt KB.out.lt))
                have NA := Lib.hid NZ.out
                have BB := Lib.hid (BB.out.trans (hb.mono BB.out.size))
                have RD := Lib.hid (RD.out.below hb)
                have YL := Lib.hid (YL.out.below hb)
                have KB := Lib.hid (KB.out.below hb)
                have SN := HSL.out _ BB.out
                go_simp
                refine hK.out _ _ (fun _ => SN) ?_
                clear hK K SN hb NZ
                generalize hG : World.alloc q1 _ = q11 at BB RD YL KB KA ⊢
                clear hG
                try simp only [Act.put, List.setIfInBounds_toArray, List.set_cons_zero, List.set_cons_succ]
                refine AnyBut.one (i := 3) (o := ⟨some 55, _, _, _, _, none⟩) (by as_aux_lemma => kernel_rfl) rfl (fun K hK => ?_)
                go_simp
                refine (ownI_any u ds q11 YL.out FL.out).mono ?_
                rintro ev q12 ⟨y, dy, rfl, hy, hr, hs⟩
                have RY := Lib.hid hr
                have YY := Lib.hid (hy.mono BB.out.size)
                have BB := Lib.hid (BB.out.trans (hs.mono BB.out.size))
                have RD := Lib.hid (RD.out.below hs)
                have KB := Lib.hid (KB.out.below hs)
                have KA := Lib.hid (KA.out.below hs)
                have SN := HSL.out _ BB.out
                clear hy hr hs YL
                refine hK.out _ _ (fun _ => SN) ?_
                clear hK K SN
                try simp only [Act.put, List.setIfInBounds_toArray, List.set_cons_zero, List.set_cons_succ]
                refine AnyBut.one (i := 4) (o := ⟨some 56, _, _, _, _, none⟩) (by as_aux_lemma => kernel_rfl) rfl (fun K hK => ?_)
                have PP := ChO.of_rec (base := w.heap.size) (d := (⟨(⟨9, ⟨#[]⟩, ⟨#[]⟩, false, 0, kx, ⟨#[]⟩, page, 0, 0, ⟨#[]⟩, 0, 0⟩ : Sc), ra, rc, ea, ec, [], []⟩ : RcD)) (Nat.le_trans S_B.out.size NB.out) KB.out RD.out
                have PO := OwnS.of_rec (base := w5.heap.size) (d := (⟨(⟨9, ⟨#[]⟩, ⟨#[]⟩, false, 0, kx, ⟨#[]⟩, page, 0, 0, ⟨#[]⟩, 0, 0⟩ : Sc), ra, rc, ea, ec, [], []⟩ : RcD)) NB.out KB.out
                refine step_appS lRec 22 Try.underlying22 lRec_known (by decide) (by decide) rfl (.tmp 53) (.tmp 55) rfl w5.heap.size rfl rfl PO YY.out.own.sv (by have := (few_read FW.out RY.out).1; simp; omega) BB.out.size ?_
                intro v7 q13 ho hg
                have QQ := Lib.hid (PP.append YY.out S_B.out.size (ho.mono S_B.out.size) hg)
                have KA := Lib.hid (HB.grown KA.out hg (fun h => NE.out (Option.some.inj h)))
                have BB := Lib.hid (BB.out.grown hg BB.out.size (fun k hk => (World.ownsRow.lt PO k hk).1))
                have SN := HSL.out _ BB.out
                clear PP PO ho hg KB YY NB RD NE
                refine hK.out _ _ (fun _ => SN) ?_
                clear hK K SN
                try simp only [Act.put, List.setIfInBounds_toArray, List.set_cons_zero, List.set_cons_succ]
                refine AnyBut.one (i := 5) (o := ⟨some 57, _, _, _, _, none⟩) (by as_aux_lemma => kernel_rfl) rfl (fun K hK => ?_)
                have RQ := (show readC ([(⟨(⟨9, ⟨#[]⟩, ⟨#[]⟩, false, 0, kx, ⟨#[]⟩, page, 0, 0, ⟨#[]⟩, 0, 0⟩ : Sc), ra, rc, ea, ec, [], []⟩ : RcD)] ++ dy) = splitI9 kx page :: readC ds by (rw [readC_app, RY.out]; rfl))
                have e1 := (show ([(⟨(⟨9, ⟨#[]⟩, ⟨#[]⟩, false, 0, kx, ⟨#[]⟩, page, 0, 0, ⟨#[]⟩, 0, 0⟩ : Sc), ra, rc, ea, ec, [], []⟩ : RcD)] ++ dy).length ≤ 100 by (have := (few_read FW.out RY.out).1; simp; omega))
                have e2 := (show (([(⟨(⟨9, ⟨#[]⟩, ⟨#[]⟩, false, 0, kx, ⟨#[]⟩, page, 0, 0, ⟨#[]⟩, 0, 0⟩ : Sc), ra, rc, ea, ec, [], []⟩ : RcD)] ++ dy).map fun d => d.ents.length).sum ≤ 1000 by (have := (few_read FW.out RY.out).2; simp; omega))
                go_simp
                refine (C.fold _ _ _ q13 QQ.out e1 e2).mono ?_
                rintro ev q14 ⟨en2, rfl, hen, hsz, hs⟩
                rw [RQ, CY.out.2] at hen hsz
                rw [RQ, CY.out.1, CY.out.2, errV_zero rfl]
                obtain ⟨za, zc, rfl, -, -⟩ := hen.lenN HM2.out
                unfold ivVal
                have EE := Lib.hid (hen.mono BB.out.size)
                have ZZ := Lib.hid hsz
                have BB := Lib.hid (BB.out.trans (hs.mono BB.out.size))
                have KA := Lib.hid (KA.out.below hs)
                have SN := HSL.out _ BB.out
                clear hen hsz hs RQ e1 e2 QQ
                refine hK.out _ _ (fun _ => SN) ?_
                clear hK K SN
                have SX := Lib.hid (HSL.out _ BB.out)
                refine AnyBut.take (i := 6) (oi := ⟨some 51, _, _, _, _, none⟩) (v := ?vAx46) rfl (by as_aux_lemma => kernel_rfl) (by as_aux_lemma => kernel_rfl) (by as_aux_lemma => kernel_rfl) (by as_aux_lemma => kernel_rfl) (fun _ _ _ h => h) (Or.inl ⟨by as_aux_lemma => rfl, ?hyAx46⟩) SX.out ?restAx46
                case hyAx46 => (intro w hSw; go_simp; try (with_reducible rfl))
                simp only [Act.put, List.setIfInBounds_toArray, List.set_cons_zero, List.set_cons_succ]
                refine AnyBut.take (i := 7) (oi := ⟨some 58, _, _, _, _, none⟩) (v := ?vAx47) rfl (by as_aux_lemma => kernel_rfl) (by as_aux_lemma => kernel_rfl) (by as_aux_lemma => kernel_rfl) (by as_aux_lemma => kernel_rfl) (fun _ _ _ h => h) (Or.inl ⟨by as_aux_lemma => rfl, ?hyAx47⟩) SX.out ?restAx47
                case hyAx47 => (intro w hSw; go_simp; try (with_reducible rfl))
                simp only [Act.put, List.setIfInBounds_toArray, List.set_cons_zero, List.set_cons_succ]
                refine AnyBut.take (i := 8) (oi := ⟨some 59, _, _, _, _, none⟩) (v := ?vAx48) rfl (by as_aux_lemma => kernel_rfl) (by as_aux_lemma => kernel_rfl) (by as_aux_lemma => kernel_rfl) (by as_aux_lemma => kernel_rfl) (fun _ _ _ h => h) (Or.inl ⟨by as_aux_lemma => rfl, ?hyAx48⟩) SX.out ?restAx48
                case hyAx48 => (intro w hSw; go_simp; try (with_reducible rfl))
                simp only [Act.put, List.setIfInBounds_toArray, List.set_cons_zero, List.set_cons_succ]
                clear SX
                have KS := KA.out.sets (ivCells dw (.slice za m2 zc)) rfl
                have ES := EE.out.kept (Kept.setCells (ivCells dw (.slice za m2 zc)) 0 _ (Kept.refl (fun x => x = _) _)) (EE.out.apart KA.out (show lEnt.ty ≠ 29 by decide))
                have BS := below_setCells NA.out (ivCells dw (.slice za m2 zc)) 0 _ BB.out
                have SN := HSL.out _ BS
                refine AnyBut.one (i := 10) (o := ⟨none, _, _, _, _, none⟩) (by as_aux_lemma => kernel_rfl) rfl (fun K hK => ?_)
                rw [if_pos (by as_aux_lemma => rfl)]
                refine wp_store_mid 29 (.tmp 12) (.tmp 58) rfl _ 0 (ivCells dw (.slice za m2 zc)).toArray rfl rfl (KA.out.there 9 (Nat.le_refl _)) ivInfoS (iv_one _ _ _ _) ?_
                refine hK.out _ _ (fun _ => SN) ?_
                clear hK K
                try simp only [Act.put]
                refine AnyBut.one (i := 11) (o := ⟨some 13, _, _, _, _, none⟩) (by as_aux_lemma => kernel_rfl) rfl (fun K hK => ?_)
                go_simp
                refine hK.out _ _ (fun h => absurd rfl h) ?_
                clear hK K
                try simp only [Act.put, List.setIfInBounds_toArray, List.set_cons_zero, List.set_cons_succ]
                refine AnyBut.done (by as_aux_lemma => kernel_rfl) ?_ _
                go_wp2
                go_meet
                case rel => exact ⟨_, za, zc, rfl, rfl, HB.vb KS, ES, ZZ.out, BS⟩
            · go_simp
              refine (ownI_any u ds q0 YL.out FL.out).mono ?_
              rintro ev q15 ⟨y, dy, rfl, hy, hr, hs⟩
              have RY := Lib.hid hr
              have YY := Lib.hid (hy.mono BB.out.size)
              have BB := Lib.hid (BB.out.trans (hs.mono BB.out.size))
              have RD := Lib.hid (RD.out.below hs)
              have SN := HSL.out _ BB.out
              clear hy hr hs YL
              refine hK.out _ _ (fun _ => SN) ?_
              clear hK K SN
              try simp only [Act.put, List.setIfInBounds_toArray, List.set_cons_zero, List.set_cons_succ]
              refine AnyBut.two (i := 1) (j := 9) (o := ⟨some 53, _, _, _, _, none⟩) (u := ⟨some 12, _, _, _, _, none⟩) (by as_aux_lemma => kernel_rfl) rfl rfl (fun K hK => ?_) (fun K hK => ?_)
              · have hb := alloc_below0 q15 (.cells #[.int .i64 9, .string ⟨#[]⟩, .string ⟨#[]⟩, .bool false, .int .i64 0, .slice ra 0 rc, .slice ea 0 ec, .string kx, .string ⟨#[]⟩, .int .i64 page, .int .i64 0, .int .i64 0, .string ⟨#[]⟩, .int .i64 0, .int .i64 0] 39)
                have KB := Lib.hid (HB.new (.cells #[.int .i64 9, .string ⟨#[]⟩, .string ⟨#[]⟩, .bool false, .int .i64 0, .slice ra 0 rc, .slice ea 0 ec, .string kx, .string ⟨#[]⟩, .int .i64 page, .int .i64 0, .int .i64 0, .string ⟨#[]⟩, .int .i64 0, .int .i64 0] 39) q15)
                have NZ := Lib.hid (show w5.heap.size ≤ q15.heap.size from BB.out.size)
                have NB := Lib.hid NZ.out
                have BB := Lib.hid (BB.out.trans (hb.mono BB.out.size))
                have RD := Lib.hid (RD.out.below hb)
                have YY := Lib.hid (YY.out.below hb)
                have SN := HSL.out _ BB.out
                go_simp
                refine hK.out _ _ (fun _ => SN) ?_
                clear hK K SN hb NZ
                generalize hG : World.alloc q15 _ = q16 at BB RD KB YY ⊢
                clear hG
                try simp only [Act.put, List.setIfInBounds_toArray, List.set_cons_zero, List.set_cons_succ]
                refine AnyBut.two (i := 4) (j := 9) (o := ⟨some 56, _, _, _, _, none⟩) (u := ⟨some 12, _, _, _, _, none⟩) (by as_aux_lemma => kernel_rfl) rfl rfl (fun K hK => ?_) (fun K hK => ?_)
                · have PP := ChO.of_rec (base := w.heap.size) (d := (⟨(⟨9, ⟨#[]⟩, ⟨#[]⟩, false, 0, kx, ⟨#[]⟩, page, 0, 0, ⟨#[]⟩, 0, 0⟩ : Sc), ra, rc, ea, ec, [], []⟩ : RcD)) (Nat.le_trans S_B.out.size NB.out) KB.out RD.out
                  have PO := OwnS.of_rec (base := w5.heap.size) (d := (⟨(⟨9, ⟨#[]⟩, ⟨#[]⟩, false, 0, kx, ⟨#[]⟩, page, 0, 0, ⟨#[]⟩, 0, 0⟩ : Sc), ra, rc, ea, ec, [], []⟩ : RcD)) NB.out KB.out
                  refine step_appS lRec 22 Try.underlying22 lRec_known (by decide) (by decide) rfl (.tmp 53) (.tmp 55) rfl w5.heap.size rfl rfl PO YY.out.own.sv (by have := (few_read FW.out RY.out).1; simp; omega) BB.out.size ?_
                  intro v7 q17 ho hg
                  have QQ := Lib.hid (PP.append YY.out S_B.out.size (ho.mono S_B.out.size) hg)
                  have BB := Lib.hid (BB.out.grown hg BB.out.size (fun k hk => (World.ownsRow.lt PO k hk).1))
                  have SN := HSL.out _ BB.out
                  clear PP PO ho hg KB YY NB RD
                  refine hK.out _ _ (fun _ => SN) ?_
                  clear hK K SN
                  try simp only [Act.put, List.setIfInBounds_toArray, List.set_cons_zero, List.set_cons_succ]
                  refine AnyBut.two (i := 5) (j := 9) (o := ⟨some 57, _, _, _, _, none⟩) (u := ⟨some 12, _, _, _, _, none⟩) (by as_aux_lemma => kernel_rfl) rfl rfl (fun K hK => ?_) (fun K hK => ?_)
                  · have RQ := (show readC ([(⟨(⟨9, ⟨#[]⟩, ⟨#[]⟩, false, 0, kx, ⟨#[]⟩, page, 0, 0, ⟨#[]⟩, 0, 0⟩ : Sc), ra, rc, ea, ec, [], []⟩ : RcD)] ++ dy) = splitI9 kx page :: readC ds by (rw [readC_app, RY.out]; rfl))
                    have e1 := (show ([(⟨(⟨9, ⟨#[]⟩, ⟨#[]⟩, false, 0, kx, ⟨#[]⟩, page, 0, 0, ⟨#[]⟩, 0, 0⟩ : Sc), ra, rc, ea, ec, [], []⟩ : RcD)] ++ dy).length ≤ 100 by (have := (few_read FW.out RY.out).1; simp; omega))
                    have e2 := (show (([(⟨(⟨9, ⟨#[]⟩, ⟨#[]⟩, false, 0, kx, ⟨#[]⟩, page, 0, 0, ⟨#[]⟩, 0, 0⟩ : Sc), ra, rc, ea, ec, [], []⟩ : RcD)] ++ dy).map fun d => d.ents.length).sum ≤ 1000 by (have := (few_read FW.out RY.out).2; simp; omega))
                    go_simp
                    refine (C.fold _ _ _ q17 QQ.out e1 e2).mono ?_
                    rintro ev q18 ⟨en2, rfl, hen, hsz, hs⟩
                    rw [RQ, CY.out.2] at hen hsz
                    rw [RQ, CY.out.1, CY.out.2, errV_zero rfl]
                    obtain ⟨za, zc, rfl, -, -⟩ := hen.lenN HM2.out
                    unfold ivVal
                    have EE := Lib.hid (hen.mono BB.out.size)
                    have ZZ := Lib.hid hsz
                    have BB := Lib.hid (BB.out.trans (hs.mono BB.out.size))
                    have SN := HSL.out _ BB.out
                    clear hen hsz hs RQ e1 e2 QQ
                    refine hK.out _ _ (fun _ => SN) ?_
                    clear hK K SN
                    have SX := Lib.hid (HSL.out _ BB.out)
                    refine AnyBut.take (i := 6) (oi := ⟨some 51, _, _, _, _, none⟩) (v := ?vAx56) rfl (by as_aux_lemma => kernel_rfl) (by as_aux_lemma => kernel_rfl) (by as_aux_lemma => kernel_rfl) (by as_aux_lemma => kernel_rfl) (fun _ _ _ h => h) (Or.inl ⟨by as_aux_lemma => rfl, ?hyAx56⟩) SX.out ?restAx56
                    case hyAx56 => (intro w hSw; go_simp; try (with_reducible rfl))
                    simp only [Act.put, List.setIfInBounds_toArray, List.set_cons_zero, List.set_cons_succ]
                    refine AnyBut.take (i := 7) (oi := ⟨some 58, _, _, _, _, none⟩) (v := ?vAx57) rfl (by as_aux_lemma => kernel_rfl) (by as_aux_lemma => kernel_rfl) (by as_aux_lemma => kernel_rfl) (by as_aux_lemma => kernel_rfl) (fun _ _ _ h => h) (Or.inl ⟨by as_aux_lemma => rfl, ?hyAx57⟩) SX.out ?restAx57
                    case hyAx57 => (intro w hSw; go_simp; try (with_reducible rfl))
                    simp only [Act.put, List.setIfInBounds_toArray, List.set_cons_zero, List.set_cons_succ]
                    refine AnyBut.take (i := 8) (oi := ⟨some 59, _, _, _, _, none⟩) (v := ?vAx58) rfl (by as_aux_lemma => kernel_rfl) (by as_aux_lemma => kernel_rfl) (by as_aux_lemma => kernel_rfl) (by as_aux_lemma => kernel_rfl) (fun _ _ _ h => h) (Or.inl ⟨by as_aux_lemma => rfl, ?hyAx58⟩) SX.out ?restAx58
                    case hyAx58 => (intro w hSw; go_simp; try (with_reducible rfl))
                    simp only [Act.put, List.setIfInBounds_toArray, List.set_cons_zero, List.set_cons_succ]
                    clear SX
                    refine AnyBut.one (i := 9) (o := ⟨some 12, _, _, _, _, none⟩) (by as_aux_lemma => kernel_rfl) rfl (fun K hK => ?_)
                    have hb := alloc_below0 q18 (.cells #[.string ⟨#[]⟩, .string ⟨#[]⟩, .bool false, .int .i64 0, .slice none 0 0, .bool false, .int .i64 0, .int .i64 0, .string ⟨#[]⟩] 29)
                    have KA := Lib.hid (HB.new (.cells #[.string ⟨#[]⟩, .string ⟨#[]⟩, .bool false, .int .i64 0, .slice none 0 0, .bool false, .int .i64 0, .int .i64 0, .string ⟨#[]⟩] 29) q18)
                    have NZ := Lib.hid (show w5.heap.size ≤ q18.heap.size from BB.out.size)
                    have NA := Lib.hid NZ.out
                    have BB := Lib.hid (BB.out.trans (hb.mono BB.out.size))
                    have EE := Lib.hid (EE.out.below hb)
                    have SN := HSL.out _ BB.out
                    go_simp
                    refine hK.out _ _ (fun _ => SN) ?_
                    clear hK K SN hb NZ
                    generalize hG : World.alloc q18 _ = q19 at BB KA EE ⊢
                    clear hG
                    try simp only [Act.put, List.setIfInBounds_toArray, List.set_cons_zero, List.set_cons_succ]
                    have KS := KA.out.sets (ivCells dw (.slice za m2 zc)) rfl
                    have ES := EE.out.kept (Kept.setCells (ivCells dw (.slice za m2 zc)) 0 _ (Kept.refl (fun x => x = _) _)) (EE.out.apart KA.out (show lEnt.ty ≠ 29 by decide))
                    have BS := below_setCells NA.out (ivCells dw (.slice za m2 zc)) 0 _ BB.out
                    have SN := HSL.out _ BS
                    refine AnyBut.one (i := 10) (o := ⟨none, _, _, _, _, none⟩) (by as_aux_lemma => kernel_rfl) rfl (fun K hK => ?_)
                    rw [if_pos (by as_aux_lemma => rfl)]
                    refine wp_store_mid 29 (.tmp 12) (.tmp 58) rfl _ 0 (ivCells dw (.slice za m2 zc)).toArray rfl rfl (KA.out.there 9 (Nat.le_refl _)) ivInfoS (iv_one _ _ _ _) ?_
                    refine hK.out _ _ (fun _ => SN) ?_
                    clear hK K
                    try simp only [Act.put]
                    refine AnyBut.one (i := 11) (o := ⟨some 13, _, _, _, _, none⟩) (by as_aux_lemma => kernel_rfl) rfl (fun K hK => ?_)
                    go_simp
                    refine hK.out _ _ (fun h => absurd rfl h) ?_
                    clear hK K
                    try simp only [Act.put, List.setIfInBounds_toArray, List.set_cons_zero, List.set_cons_succ]
                    refine AnyBut.done (by as_aux_lemma => kernel_rfl) ?_ _
                    go_wp2
                    go_meet
                    case rel => exact ⟨_, za, zc, rfl, rfl, HB.vb KS, ES, ZZ.out, BS⟩
                  · have hb := alloc_below0 q17 (.cells #[.string ⟨#[]⟩, .string ⟨#[]⟩, .bool false, .int .i64 0, .slice none 0 0, .bool false, .int .i64 0, .int .i64 0, .string ⟨#[]⟩] 29)
                    have KA := Lib.hid (HB.new (.cells #[.string ⟨#[]⟩, .string ⟨#[]⟩, .bool false, .int .i64 0, .slice none 0 0, .bool false, .int .i64 0, .int .i64 0, .string ⟨#[]⟩] 29) q17)
                    have NZ := Lib.hid (show w5.heap.size ≤ q17.heap.size from BB.out.size)
                    have NA := Lib.hid NZ.out
                    have BB := Lib.hid (BB.out.trans (hb.mono BB.out.size))
                    have QQ := Lib.hid (QQ.out.below hb)
                    have SN := HSL.out _ BB.out
                    go_simp
                    refine hK.out _ _ (fun _ => SN) ?_
                    clear hK K SN hb NZ
                    generalize hG : World.alloc q17 _ = q20 at BB KA QQ ⊢
                    clear hG
                    try simp only [Act.put, List.setIfInBounds_toArray, List.set_cons_zero, List.set_cons_succ]
                    refine AnyBut.one (i := 5) (o := ⟨some 57, _, _, _, _, none⟩) (by as_aux_lemma => kernel_rfl) rfl (fun K hK => ?_)
                    have RQ := (show readC ([(⟨(⟨9, ⟨#[]⟩, ⟨#[]⟩, false, 0, kx, ⟨#[]⟩, page, 0, 0, ⟨#[]⟩, 0, 0⟩ : Sc), ra, rc, ea, ec, [], []⟩ : RcD)] ++ dy) = splitI9 kx page :: readC ds by (rw [readC_app, RY.out]; rfl))
                    have e1 := (show ([(⟨(⟨9, ⟨#[]⟩, ⟨#[]⟩, false, 0, kx, ⟨#[]⟩, page, 0, 0, ⟨#[]⟩, 0, 0⟩ : Sc), ra, rc, ea, ec, [], []⟩ : RcD)] ++ dy).length ≤ 100 by (have := (few_read FW.out RY.out).1; simp; omega))
                    have e2 := (show (([(⟨(⟨9, ⟨#[]⟩, ⟨#[]⟩, false, 0, kx, ⟨#[]⟩, page, 0, 0, ⟨#[]⟩, 0, 0⟩ : Sc), ra, rc, ea, ec, [], []⟩ : RcD)] ++ dy).map fun d => d.ents.length).sum ≤ 1000 by (have := (few_read FW.out RY.out).2; simp; omega))
                    go_simp
                    refine (C.fold _ _ _ q20 QQ.out e1 e2).mono ?_
                    rintro ev q21 ⟨en2, rfl, hen, hsz, hs⟩
                    rw [RQ, CY.out.2] at hen hsz
                    rw [RQ, CY.out.1, CY.out.2, errV_zero rfl]
                    obtain ⟨za, zc, rfl, -, -⟩ := hen.lenN HM2.out
                    unfold ivVal
                    have EE := Lib.hid (hen.mono BB.out.size)
                    have ZZ := Lib.hid hsz
                    have BB := Lib.hid (BB.out.trans (hs.mono BB.out.size))
                    have KA := Lib.hid (KA.out.below hs)
                    have SN := HSL.out _ BB.out
                    clear hen hsz hs RQ e1 e2 QQ
                    refine hK.out _ _ (fun _ => SN) ?_
                    clear hK K SN
                    have SX := Lib.hid (HSL.out _ BB.out)
                    refine AnyBut.take (i := 6) (oi := ⟨some 51, _, _, _, _, none⟩) (v := ?vAx66) rfl (by as_aux_lemma => kernel_rfl) (by as_aux_lemma => kernel_rfl) (by as_aux_lemma => kernel_rfl) (by as_aux_lemma => kernel_rfl) (fun _ _ _ h => h) (Or.inl ⟨by as_aux_lemma => rfl, ?hyAx66⟩) SX.out ?restAx66
                    case hyAx66 => (intro w hSw; go_simp; try (with_reducible rfl))
                    simp only [Act.put, List.setIfInBounds_toArray, List.set_cons_zero, List.set_cons_succ]
                    refine AnyBut.take (i := 7) (oi := ⟨some 58, _, _, _, _, none⟩) (v := ?vAx67) rfl (by as_aux_lemma => kernel_rfl) (by as_aux_lemma => kernel_rfl) (by as_aux_lemma => kernel_rfl) (by as_aux_lemma => kernel_rfl) (fun _ _ _ h => h) (Or.inl ⟨by as_aux_lemma => rfl, ?hyAx67⟩) SX.out ?restAx67
                    case hyAx67 => (intro w hSw; go_simp; try (with_reducible rfl))
                    simp only [Act.put, List.setIfInBounds_toArray, List.set_cons_zero, List.set_cons_succ]
                    refine AnyBut.take (i := 8) (oi := ⟨some 59, _, _, _, _, none⟩) (v := ?vAx68) rfl (by as_aux_lemma => kernel_rfl) (by as_aux_lemma => kernel_rfl) (by as_aux_lemma => kernel_rfl) (by as_aux_lemma => kernel_rfl) (fun _ _ _ h => h) (Or.inl ⟨by as_aux_lemma => rfl, ?hyAx68⟩) SX.out ?restAx68
                    case hyAx68 => (intro w hSw; go_simp; try (with_reducible rfl))
                    simp only [Act.put, List.setIfInBounds_toArray, List.set_cons_zero, List.set_cons_succ]
                    clear SX
                    have KS := KA.out.sets (ivCells dw (.slice za m2 zc)) rfl
                    have ES := EE.out.kept (Kept.setCells (ivCells dw (.slice za m2 zc)) 0 _ (Kept.refl (fun x => x = _) _)) (EE.out.apart KA.out (show lEnt.ty ≠ 29 by decide))
                    have BS := below_setCells NA.out (ivCells dw (.slice za m2 zc)) 0 _ BB.out
                    have SN := HSL.out _ BS
                    refine AnyBut.one (i := 10) (o := ⟨none, _, _, _, _, none⟩) (by as_aux_lemma => kernel_rfl) rfl (fun K hK => ?_)
                    rw [if_pos (by as_aux_lemma => rfl)]
                    refine wp_store_mid 29 (.tmp 12) (.tmp 58) rfl _ 0 (ivCells dw (.slice za m2 zc)).toArray rfl rfl (KA.out.there 9 (Nat.le_refl _)) ivInfoS (iv_one _ _ _ _) ?_
                    refine hK.out _ _ (fun _ => SN) ?_
                    clear hK K
                    try simp only [Act.put]
                    refine AnyBut.one (i := 11) (o := ⟨some 13, _, _, _, _, none⟩) (by as_aux_lemma => kernel_rfl) rfl (fun K hK => ?_)
                    go_simp
                    refine hK.out _ _ (fun h => absurd rfl h) ?_
                    clear hK K
                    try simp only [Act.put, List.setIfInBounds_toArray, List.set_cons_zero, List.set_cons_succ]
                    refine AnyBut.done (by as_aux_lemma => kernel_rfl) ?_ _
                    go_wp2
                    go_meet
                    case rel => exact ⟨_, za, zc, rfl, rfl, HB.vb KS, ES, ZZ.out, BS⟩
                · have hb := alloc_below0 q16 (.cells #[.string ⟨#[]⟩, .string ⟨#[]⟩, .bool false, .int .i64 0, .slice none 0 0, .bool false, .int .i64 0, .int .i64 0, .string ⟨#[]⟩] 29)
                  have KA := Lib.hid (HB.new (.cells #[.string ⟨#[]⟩, .string ⟨#[]⟩, .bool false, .int .i64 0, .slice none 0 0, .bool false, .int .i64 0, .int .i64 0, .string ⟨#[]⟩] 29) q16)
                  have NZ := Lib.hid (show w5.heap.size ≤ q16.heap.size from BB.out.size)
                  have NE := Lib.hid (show _ ≠ _ from (Nat.ne_of_gt KB.out.lt))
                  have NA := Lib.hid NZ.out
                  have BB := Lib.hid (BB.out.trans (hb.mono BB.out.size))
                  have RD := Lib.hid (RD.out.below hb)
                  have KB := Lib.hid (KB.out.below hb)
                  have YY := Lib.hid (YY.out.below hb)
                  have SN := HSL.out _ BB.out
                  go_simp
                  refine hK.out _ _ (fun _ => SN) ?_
                  clear hK K SN hb NZ
                  generalize hG : World.alloc q16 _ = q22 at BB RD KB YY KA ⊢
                  clear hG
                  try simp only [Act.put, List.setIfInBounds_toArray, List.set_cons_zero, List.set_cons_succ]
                  refine AnyBut.one (i := 4) (o := ⟨some 56, _, _, _, _, none⟩) (by as_aux_lemma => kernel_rfl) rfl (fun K hK => ?_)
                  have PP := ChO.of_rec (base := w.heap.size) (d := (⟨(⟨9, ⟨#[]⟩, ⟨#[]⟩, false, 0, kx, ⟨#[]⟩, page, 0, 0, ⟨#[]⟩, 0, 0⟩ : Sc), ra, rc, ea, ec, [], []⟩ : RcD)) (Nat.le_trans S_B.out.size NB.out) KB.out RD.out
                  have PO := OwnS.of_rec (base := w5.heap.size) (d := (⟨(⟨9, ⟨#[]⟩, ⟨#[]⟩, false, 0, kx, ⟨#[]⟩, page, 0, 0, ⟨#[]⟩, 0, 0⟩ : Sc), ra, rc, ea, ec, [], []⟩ : RcD)) NB.out KB.out
                  refine step_appS lRec 22 Try.underlying22 lRec_known (by decide) (by decide) rfl (.tmp 53) (.tmp 55) rfl w5.heap.size rfl rfl PO YY.out.own.sv (by have := (few_read FW.out RY.out).1; simp; omega) BB.out.size ?_
                  intro v7 q23 ho hg
                  have QQ := Lib.hid (PP.append YY.out S_B.out.size (ho.mono S_B.out.size) hg)
                  have KA := Lib.hid (HB.grown KA.out hg (fun h => NE.out (Option.some.inj h)))
                  have BB := Lib.hid (BB.out.grown hg BB.out.size (fun k hk => (World.ownsRow.lt PO k hk).1))
                  have SN := HSL.out _ BB.out
                  clear PP PO ho hg KB YY NB RD NE
                  refine hK.out _ _ (fun _ => SN) ?_
                  clear hK K SN
                  try simp only [Act.put, List.setIfInBounds_toArray, List.set_cons_zero, List.set_cons_succ]
                  refine AnyBut.one (i := 5) (o := ⟨some 57, _, _, _, _, none⟩) (by as_aux_lemma => kernel_rfl) rfl (fun K hK => ?_)
                  have RQ := (show readC ([(⟨(⟨9, ⟨#[]⟩, ⟨#[]⟩, false, 0, kx, ⟨#[]⟩, page, 0, 0, ⟨#[]⟩, 0, 0⟩ : Sc), ra, rc, ea, ec, [], []⟩ : RcD)] ++ dy) = splitI9 kx page :: readC ds by (rw [readC_app, RY.out]; rfl))
                  have e1 := (show ([(⟨(⟨9, ⟨#[]⟩, ⟨#[]⟩, false, 0, kx, ⟨#[]⟩, page, 0, 0, ⟨#[]⟩, 0, 0⟩ : Sc), ra, rc, ea, ec, [], []⟩ : RcD)] ++ dy).length ≤ 100 by (have := (few_read FW.out RY.out).1; simp; omega))
                  have e2 := (show (([(⟨(⟨9, ⟨#[]⟩, ⟨#[]⟩, false, 0, kx, ⟨#[]⟩, page, 0, 0, ⟨#[]⟩, 0, 0⟩ : Sc), ra, rc, ea, ec, [], []⟩ : RcD)] ++ dy).map fun d => d.ents.length).sum ≤ 1000 by (have := (few_read FW.out RY.out).2; simp; omega))
                  go_simp
                  refine (C.fold _ _ _ q23 QQ.out e1 e2).mono ?_
                  rintro ev q24 ⟨en2, rfl, hen, hsz, hs⟩
                  rw [RQ, CY.out.2] at hen hsz
                  rw [RQ, CY.out.1, CY.out.2, errV_zero rfl]
                  obtain ⟨za, zc, rfl, -, -⟩ := hen.lenN HM2.out
                  unfold ivVal
                  have EE := Lib.hid (hen.mono BB.out.size)
                  have ZZ := Lib.hid hsz
                  have BB := Lib.hid (BB.out.trans (hs.mono BB.out.size))
                  have KA := Lib.hid (KA.out.below hs)
                  have SN := HSL.out _ BB.out
                  clear hen hsz hs RQ e1 e2 QQ
                  refine hK.out _ _ (fun _ => SN) ?_
                  clear hK K SN
                  have SX := Lib.hid (HSL.out _ BB.out)
                  refine AnyBut.take (i := 6) (oi := ⟨some 51, _, _, _, _, none⟩) (v := ?vAx76) rfl (by as_aux_lemma => kernel_rfl) (by as_aux_lemma => kernel_rfl) (by as_aux_lemma => kernel_rfl) (by as_aux_lemma => kernel_rfl) (fun _ _ _ h => h) (Or.inl ⟨by as_aux_lemma => rfl, ?hyAx76⟩) SX.out ?restAx76
                  case hyAx76 => (intro w hSw; go_simp; try (with_reducible rfl))
                  simp only [Act.put, List.setIfInBounds_toArray, List.set_cons_zero, List.set_cons_succ]
                  refine AnyBut.take (i := 7) (oi := ⟨some 58, _, _, _, _, none⟩) (v := ?vAx77) rfl (by as_aux_lemma => kernel_rfl) (by as_aux_lemma => kernel_rfl) (by as_aux_lemma => kernel_rfl) (by as_aux_lemma => kernel_rfl) (fun _ _ _ h => h) (Or.inl ⟨by as_aux_lemma => rfl, ?hyAx77⟩) SX.out ?restAx77
                  case hyAx77 => (intro w hSw; go_simp; try (with_reducible rfl))
                  simp only [Act.put, List.setIfInBounds_toArray, List.set_cons_zero, List.set_cons_succ]
                  refine AnyBut.take (i := 8) (oi := ⟨some 59, _, _, _, _, none⟩) (v := ?vAx78) rfl (by as_aux_lemma => kernel_rfl) (by as_aux_lemma => kernel_rfl) (by as_aux_lemma => kernel_rfl) (by as_aux_lemma => kernel_rfl) (fun _ _ _ h => h) (Or.inl ⟨by as_aux_lemma => rfl, ?hyAx78⟩) SX.out ?restAx78
                  case hyAx78 => (intro w hSw; go_simp; try (with_reducible rfl))
                  simp only [Act.put, List.setIfInBounds_toArray, List.set_cons_zero, List.set_cons_succ]
                  clear SX
                  have KS := KA.out.sets (ivCells dw (.slice za m2 zc)) rfl
                  have ES := EE.out.kept (Kept.setCells (ivCells dw (.slice za m2 zc)) 0 _ (Kept.refl (fun x => x = _) _)) (EE.out.apart KA.out (show lEnt.ty ≠ 29 by decide))
                  have BS := below_setCells NA.out (ivCells dw (.slice za m2 zc)) 0 _ BB.out
                  have SN := HSL.out _ BS
                  refine AnyBut.one (i := 10) (o := ⟨none, _, _, _, _, none⟩) (by as_aux_lemma => kernel_rfl) rfl (fun K hK => ?_)
                  rw [if_pos (by as_aux_lemma => rfl)]
                  refine wp_store_mid 29 (.tmp 12) (.tmp 58) rfl _ 0 (ivCells dw (.slice za m2 zc)).toArray rfl rfl (KA.out.there 9 (Nat.le_refl _)) ivInfoS (iv_one _ _ _ _) ?_
                  refine hK.out _ _ (fun _ => SN) ?_
                  clear hK K
                  try simp only [Act.put]
                  refine AnyBut.one (i := 11) (o := ⟨some 13, _, _, _, _, none⟩) (by as_aux_lemma => kernel_rfl) rfl (fun K hK => ?_)
                  go_simp
                  refine hK.out _ _ (fun h => absurd rfl h) ?_
                  clear hK K
                  try simp only [Act.put, List.setIfInBounds_toArray, List.set_cons_zero, List.set_cons_succ]
                  refine AnyBut.done (by as_aux_lemma => kernel_rfl) ?_ _
                  go_wp2
                  go_meet
                  case rel => exact ⟨_, za, zc, rfl, rfl, HB.vb KS, ES, ZZ.out, BS⟩
              · have hb := alloc_below0 q15 (.cells #[.string ⟨#[]⟩, .string ⟨#[]⟩, .bool false, .int .i64 0, .slice none 0 0, .bool false, .int .i64 0, .int .i64 0, .string ⟨#[]⟩] 29)
                have KA := Lib.hid (HB.new (.cells #[.string ⟨#[]⟩, .string ⟨#[]⟩, .bool false, .int .i64 0, .slice none 0 0, .bool false, .int .i64 0, .int .i64 0, .string ⟨#[]⟩] 29) q15)
                have NZ := Lib.hid (show w5.heap.size ≤ q15.heap.size from BB.out.size)
                have NA := Lib.hid NZ.out
                have BB := Lib.hid (BB.out.trans (hb.mono BB.out.size))
                have RD := Lib.hid (RD.out.below hb)
                have YY := Lib.hid (YY.out.below hb)
                have SN := HSL.out _ BB.out
                go_simp
                refine hK.out _ _ (fun _ => SN) ?_
                clear hK K SN hb NZ
                generalize hG : World.alloc q15 _ = q25 at BB RD YY KA ⊢
                clear hG
                try simp only [Act.put, List.setIfInBounds_toArray, List.set_cons_zero, List.set_cons_succ]
                refine AnyBut.one (i := 1) (o := ⟨some 53, _, _, _, _, none⟩) (by as_aux_lemma => kernel_rfl) rfl (fun K hK => ?_)
                have hb := alloc_below0 q25 (.cells #[.int .i64 9, .string ⟨#[]⟩, .string ⟨#[]⟩, .bool false, .int .i64 0, .slice ra 0 rc, .slice ea 0 ec, .string kx, .string ⟨#[]⟩, .int .i64 page, .int .i64 0, .int .i64 0, .string ⟨#[]⟩, .int .i64 0, .int .i64 0] 39)
                have KB := Lib.hid (HB.new (.cells #[.int .i64 9, .string ⟨#[]⟩, .string ⟨#[]⟩, .bool false, .int .i64 0, .slice ra 0 rc, .slice ea 0 ec, .string kx, .string ⟨#[]⟩, .int .i64 page, .int .i64 0, .int .i64 0, .string ⟨#[]⟩, .int .i64 0, .int .i64 0] 39) q25)
                have NZ := Lib.hid (show w5.heap.size ≤ q25.heap.size from BB.out.size)
                have NB := Lib.hid NZ.out
                have NE := Lib.hid (show _ ≠ _ from (Nat.ne_of_lt KA.out.lt))
                have BB := Lib.hid (BB.out.trans (hb.mono BB.out.size))
                have RD := Lib.hid (RD.out.below hb)
                have YY := Lib.hid (YY.out.below hb)
                have KA := Lib.hid (KA.out.below hb)
                have SN := HSL.out _ BB.out
                go_simp
                refine hK.out _ _ (fun _ => SN) ?_
                clear hK K SN hb NZ
                generalize hG : World.alloc q25 _ = q26 at BB RD KB YY KA ⊢
                clear hG
                try simp only [Act.put, List.setIfInBounds_toArray, List.set_cons_zero, List.set_cons_succ]
                refine AnyBut.one (i := 4) (o := ⟨some 56, _, _, _, _, none⟩) (by as_aux_lemma => kernel_rfl) rfl (fun K hK => ?_)
                have PP := ChO.of_rec (base := w.heap.size) (d := (⟨(⟨9, ⟨#[]⟩, ⟨#[]⟩, false, 0, kx, ⟨#[]⟩, page, 0, 0, ⟨#[]⟩, 0, 0⟩ : Sc), ra, rc, ea, ec, [], []⟩ : RcD)) (Nat.le_trans S_B.out.size NB.out) KB.out RD.out
                have PO := OwnS.of_rec (base := w5.heap.size) (d := (⟨(⟨9, ⟨#[]⟩, ⟨#[]⟩, false, 0, kx, ⟨#[]⟩, page, 0, 0, ⟨#[]⟩, 0, 0⟩ : Sc), ra, rc, ea, ec, [], []⟩ : RcD)) NB.out KB.out
                refine step_appS lRec 22 Try.underlying22 lRec_known (by decide) (by decide) rfl (.tmp 53) (.tmp 55) rfl w5.heap.size rfl rfl PO YY.out.own.sv (by have := (few_read FW.out RY.out).1; simp; omega) BB.out.size ?_
                intro v7 q27 ho hg
                have QQ := Lib.hid (PP.append YY.out S_B.out.size (ho.mono S_B.out.size) hg)
                have KA := Lib.hid (HB.grown KA.out hg (fun h => NE.out (Option.some.inj h)))
                have BB := Lib.hid (BB.out.grown hg BB.out.size (fun k hk => (World.ownsRow.lt PO k hk).1))
                have SN := HSL.out _ BB.out
                clear PP PO ho hg KB YY NB RD NE
                refine hK.out _ _ (fun _ => SN) ?_
                clear hK K SN
                try simp only [Act.put, List.setIfInBounds_toArray, List.set_cons_zero, List.set_cons_succ]
                refine AnyBut.one (i := 5) (o := ⟨some 57, _, _, _, _, none⟩) (by as_aux_lemma => kernel_rfl) rfl (fun K hK => ?_)
                have RQ := (show readC ([(⟨(⟨9, ⟨#[]⟩, ⟨#[]⟩, false, 0, kx, ⟨#[]⟩, page, 0, 0, ⟨#[]⟩, 0, 0⟩ : Sc), ra, rc, ea, ec, [], []⟩ : RcD)] ++ dy) = splitI9 kx page :: readC ds by (rw [readC_app, RY.out]; rfl))
                have e1 := (show ([(⟨(⟨9, ⟨#[]⟩, ⟨#[]⟩, false, 0, kx, ⟨#[]⟩, page, 0, 0, ⟨#[]⟩, 0, 0⟩ : Sc), ra, rc, ea, ec, [], []⟩ : RcD)] ++ dy).length ≤ 100 by (have := (few_read FW.out RY.out).1; simp; omega))
                have e2 := (show (([(⟨(⟨9, ⟨#[]⟩, ⟨#[]⟩, false, 0, kx, ⟨#[]⟩, page, 0, 0, ⟨#[]⟩, 0, 0⟩ : Sc), ra, rc, ea, ec, [], []⟩ : RcD)] ++ dy).map fun d => d.ents.length).sum ≤ 1000 by (have := (few_read FW.out RY.out).2; simp; omega))
                go_simp
                refine (C.fold _ _ _ q27 QQ.out e1 e2).mono ?_
                rintro ev q28 ⟨en2, rfl, hen, hsz, hs⟩
                rw [RQ, CY.out.2] at hen hsz
                rw [RQ, CY.out.1, CY.out.2, errV_zero rfl]
                obtain ⟨za, zc, rfl, -, -⟩ := hen.lenN HM2.out
                unfold ivVal
                have EE := Lib.hid (hen.mono BB.out.size)
                have ZZ := Lib.hid hsz
                have BB := Lib.hid (BB.out.trans (hs.mono BB.out.size))
                have KA := Lib.hid (KA.out.below hs)
                have SN := HSL.out _ BB.out
                clear hen hsz hs RQ e1 e2 QQ
                refine hK.out _ _ (fun _ => SN) ?_
                clear hK K SN
                have SX := Lib.hid (HSL.out _ BB.out)
                refine AnyBut.take (i := 6) (oi := ⟨some 51, _, _, _, _, none⟩) (v := ?vAx86) rfl (by as_aux_lemma => kernel_rfl) (by as_aux_lemma => kernel_rfl) (by as_aux_lemma => kernel_rfl) (by as_aux_lemma => kernel_rfl) (fun _ _ _ h => h) (Or.inl ⟨by as_aux_lemma => rfl, ?hyAx86⟩) SX.out ?restAx86
                case hyAx86 => (intro w hSw; go_simp; try (with_reducible rfl))
                simp only [Act.put, List.setIfInBounds_toArray, List.set_cons_zero, List.set_cons_succ]
                refine AnyBut.take (i := 7) (oi := ⟨some 58, _, _, _, _, none⟩) (v := ?vAx87) rfl (by as_aux_lemma => kernel_rfl) (by as_aux_lemma => kernel_rfl) (by as_aux_lemma => kernel_rfl) (by as_aux_lemma => kernel_rfl) (fun _ _ _ h => h) (Or.inl ⟨by as_aux_lemma => rfl, ?hyAx87⟩) SX.out ?restAx87
                case hyAx87 => (intro w hSw; go_simp; try (with_reducible rfl))
                simp only [Act.put, List.setIfInBounds_toArray, List.set_cons_zero, List.set_cons_succ]
                refine AnyBut.take (i := 8) (oi := ⟨some 59, _, _, _, _, none⟩) (v := ?vAx88) rfl (by as_aux_lemma => kernel_rfl) (by as_aux_lemma => kernel_rfl) (by as_aux_lemma => kernel_rfl) (by as_aux_lemma => kernel_rfl) (fun _ _ _ h => h) (Or.inl ⟨by as_aux_lemma => rfl, ?hyAx88⟩) SX.out ?restAx88
                case hyAx88 => (intro w hSw; go_simp; try (with_reducible rfl))
                simp only [Act.put, List.setIfInBounds_toArray, List.set_cons_zero, List.set_cons_succ]
                clear SX
                have KS := KA.out.sets (ivCells dw (.slice za m2 zc)) rfl
                have ES := EE.out.kept (Kept.setCells (ivCells dw (.slice za m2 zc)) 0 _ (Kept.refl (fun x => x = _) _)) (EE.out.apart KA.out (show lEnt.ty ≠ 29 by decide))
                have BS := below_setCells NA.out (ivCells dw (.slice za m2 zc)) 0 _ BB.out
                have SN := HSL.out _ BS
                refine AnyBut.one (i := 10) (o := ⟨none, _, _, _, _, none⟩) (by as_aux_lemma => kernel_rfl) rfl (fun K hK => ?_)
                rw [if_pos (by as_aux_lemma => rfl)]
                refine wp_store_mid 29 (.tmp 12) (.tmp 58) rfl _ 0 (ivCells dw (.slice za m2 zc)).toArray rfl rfl (KA.out.there 9 (Nat.le_refl _)) ivInfoS (iv_one _ _ _ _) ?_
                refine hK.out _ _ (fun _ => SN) ?_
                clear hK K
                try simp only [Act.put]
                refine AnyBut.one (i := 11) (o := ⟨some 13, _, _, _, _, none⟩) (by as_aux_lemma => kernel_rfl) rfl (fun K hK => ?_)
                go_simp
                refine hK.out _ _ (fun h => absurd rfl h) ?_
                clear hK K
                try simp only [Act.put, List.setIfInBounds_toArray, List.set_cons_zero, List.set_cons_succ]
                refine AnyBut.done (by as_aux_lemma => kernel_rfl) ?_ _
                go_wp2
                go_meet
                case rel => exact ⟨_, za, zc, rfl, rfl, HB.vb KS, ES, ZZ.out, BS⟩
            · have hb := alloc_below0 q0 (.cells #[.string ⟨#[]⟩, .string ⟨#[]⟩, .bool false, .int .i64 0, .slice none 0 0, .bool false, .int .i64 0, .int .i64 0, .string ⟨#[]⟩] 29)
              have KA := Lib.hid (HB.new (.cells #[.string ⟨#[]⟩, .string ⟨#[]⟩, .bool false, .int .i64 0, .slice none 0 0, .bool false, .int .i64 0, .int .i64 0, .string ⟨#[]⟩] 29) q0)
              have NZ := Lib.hid (show w5.heap.size ≤ q0.heap.size from BB.out.size)
              have NA := Lib.hid NZ.out
              have BB := Lib.hid (BB.out.trans (hb.mono BB.out.size))
              have RD := Lib.hid (RD.out.below hb)
              have YL := Lib.hid (YL.out.below hb)
              have SN := HSL.out _ BB.out
              go_simp
              refine hK.out _ _ (fun _ => SN) ?_
              clear hK K SN hb NZ
              generalize hG : World.alloc q0 _ = q29 at BB RD YL KA ⊢
              clear hG
              try simp only [Act.put, List.setIfInBounds_toArray, List.set_cons_zero, List.set_cons_succ]
              refine AnyBut.two (i := 1) (j := 3) (o := ⟨some 53, _, _, _, _, none⟩) (u := ⟨some 55, _, _, _, _, none⟩) (by as_aux_lemma => kernel_rfl) rfl rfl (fun K hK => ?_) (fun K hK => ?_)
              · have hb := alloc_below0 q29 (.cells #[.int .i64 9, .string ⟨#[]⟩, .string ⟨#[]⟩, .bool false, .int .i64 0, .slice ra 0 rc, .slice ea 0 ec, .string kx, .string ⟨#[]⟩, .int .i64 page, .int .i64 0, .int .i64 0, .string ⟨#[]⟩, .int .i64 0, .int .i64 0] 39)
                have KB := Lib.hid (HB.new (.cells #[.int .i64 9, .string ⟨#[]⟩, .string ⟨#[]⟩, .bool false, .int .i64 0, .slice ra 0 rc, .slice ea 0 ec, .string kx, .string ⟨#[]⟩, .int .i64 page, .int .i64 0, .int .i64 0, .string ⟨#[]⟩, .int .i64 0, .int .i64 0] 39) q29)
                have NZ := Lib.hid (show w5.heap.size ≤ q29.heap.size from BB.out.size)
                have NB := Lib.hid NZ.out
                have NE := Lib.hid (show _ ≠ _ from (Nat.ne_of_lt KA.out.lt))
                have BB := Lib.hid (BB.out.trans (hb.mono BB.out.size))
                have RD := Lib.hid (RD.out.below hb)
                have YL := Lib.hid (YL.out.below hb)
                have KA := Lib.hid (KA.out.below hb)
                have SN := HSL.out _ BB.out
                go_simp
                refine hK.out _ _ (fun _ => SN) ?_
                clear hK K SN hb NZ
                generalize hG : World.alloc q29 _ = q30 at BB RD YL KB KA ⊢
                clear hG
                try simp only [Act.put, List.setIfInBounds_toArray, List.set_cons_zero, List.set_cons_succ]
                refine AnyBut.one (i := 3) (o := ⟨some 55, _, _, _, _, none⟩) (by as_aux_lemma => kernel_rfl) rfl (fun K hK => ?_)
                go_simp
                refine (ownI_any u ds q30 YL.out FL.out).mono ?_
                rintro ev q31 ⟨y, dy, rfl, hy, hr, hs⟩
                have RY := Lib.hid hr
                have YY := Lib.hid (hy.mono BB.out.size)
                have BB := Lib.hid (BB.out.trans (hs.mono BB.out.size))
                have RD := Lib.hid (RD.out.below hs)
                have KB := Lib.hid (KB.out.below hs)
                have KA := Lib.hid (KA.out.below hs)
                have SN := HSL.out _ BB.out
                clear hy hr hs YL
                refine hK.out _ _ (fun _ => SN) ?_
                clear hK K SN
                try simp only [Act.put, List.setIfInBounds_toArray, List.set_cons_zero, List.set_cons_succ]
                refine AnyBut.one (i := 4) (o := ⟨some 56, _, _, _, _, none⟩) (by as_aux_lemma => kernel_rfl) rfl (fun K hK => ?_)
                have PP := ChO.of_rec (base := w.heap.size) (d := (⟨(⟨9, ⟨#[]⟩, ⟨#[]⟩, false, 0, kx, ⟨#[]⟩, page, 0, 0, ⟨#[]⟩, 0, 0⟩ : Sc), ra, rc, ea, ec, [], []⟩ : RcD)) (Nat.le_trans S_B.out.size NB.out) KB.out RD.out
                have PO := OwnS.of_rec (base := w5.heap.size) (d := (⟨(⟨9, ⟨#[]⟩, ⟨#[]⟩, false, 0, kx, ⟨#[]⟩, page, 0, 0, ⟨#[]⟩, 0, 0⟩ : Sc), ra, rc, ea, ec, [], []⟩ : RcD)) NB.out KB.out
                refine step_appS lRec 22 Try.underlying22 lRec_known (by decide) (by decide) rfl (.tmp 53) (.tmp 55) rfl w5.heap.size rfl rfl PO YY.out.own.sv (by have := (few_read FW.out RY.out).1; simp; omega) BB.out.size ?_
                intro v7 q32 ho hg
                have QQ := Lib.hid (PP.append YY.out S_B.out.size (ho.mono S_B.out.size) hg)
                have KA := Lib.hid (HB.grown KA.out hg (fun h => NE.out (Option.some.inj h)))
                have BB := Lib.hid (BB.out.grown hg BB.out.size (fun k hk => (World.ownsRow.lt PO k hk).1))
                have SN := HSL.out _ BB.out
                clear PP PO ho hg KB YY NB RD NE
                refine hK.out _ _ (fun _ => SN) ?_
                clear hK K SN
                try simp only [Act.put, List.setIfInBounds_toArray, List.set_cons_zero, List.set_cons_succ]
                refine AnyBut.one (i := 5) (o := ⟨some 57, _, _, _, _, none⟩) (by as_aux_lemma => kernel_rfl) rfl (fun K hK => ?_)
                have RQ := (show readC ([(⟨(⟨9, ⟨#[]⟩, ⟨#[]⟩, false, 0, kx, ⟨#[]⟩, page, 0, 0, ⟨#[]⟩, 0, 0⟩ : Sc), ra, rc, ea, ec, [], []⟩ : RcD)] ++ dy) = splitI9 kx page :: readC ds by (rw [readC_app, RY.out]; rfl))
                have e1 := (show ([(⟨(⟨9, ⟨#[]⟩, ⟨#[]⟩, false, 0, kx, ⟨#[]⟩, page, 0, 0, ⟨#[]⟩, 0, 0⟩ : Sc), ra, rc, ea, ec, [], []⟩ : RcD)] ++ dy).length ≤ 100 by (have := (few_read FW.out RY.out).1; simp; omega))
                have e2 := (show (([(⟨(⟨9, ⟨#[]⟩, ⟨#[]⟩, false, 0, kx, ⟨#[]⟩, page, 0, 0, ⟨#[]⟩, 0, 0⟩ : Sc), ra, rc, ea, ec, [], []⟩ : RcD)] ++ dy).map fun d => d.ents.length).sum ≤ 1000 by (have := (few_read FW.out RY.out).2; simp; omega))
                go_simp
                refine (C.fold _ _ _ q32 QQ.out e1 e2).mono ?_
                rintro ev q33 ⟨en2, rfl, hen, hsz, hs⟩
                rw [RQ, CY.out.2] at hen hsz
                rw [RQ, CY.out.1, CY.out.2, errV_zero rfl]
                obtain ⟨za, zc, rfl, -, -⟩ := hen.lenN HM2.out
                unfold ivVal
                have EE := Lib.hid (hen.mono BB.out.size)
                have ZZ := Lib.hid hsz
                have BB := Lib.hid (BB.out.trans (hs.mono BB.out.size))
                have KA := Lib.hid (KA.out.below hs)
                have SN := HSL.out _ BB.out
                clear hen hsz hs RQ e1 e2 QQ
                refine hK.out _ _ (fun _ => SN) ?_
                clear hK K SN
                have SX := Lib.hid (HSL.out _ BB.out)
                refine AnyBut.take (i := 6) (oi := ⟨some 51, _, _, _, _, none⟩) (v := ?vAx96) rfl (by as_aux_lemma => kernel_rfl) (by as_aux_lemma => kernel_rfl) (by as_aux_lemma => kernel_rfl) (by as_aux_lemma => kernel_rfl) (fun _ _ _ h => h) (Or.inl ⟨by as_aux_lemma => rfl, ?hyAx96⟩) SX.out ?restAx96
                case hyAx96 => (intro w hSw; go_simp; try (with_reducible rfl))
                simp only [Act.put, List.setIfInBounds_toArray, List.set_cons_zero, List.set_cons_succ]
                refine AnyBut.take (i := 7) (oi := ⟨some 58, _, _, _, _, none⟩) (v := ?vAx97) rfl (by as_aux_lemma => kernel_rfl) (by as_aux_lemma => kernel_rfl) (by as_aux_lemma => kernel_rfl) (by as_aux_lemma => kernel_rfl) (fun _ _ _ h => h) (Or.inl ⟨by as_aux_lemma => rfl, ?hyAx97⟩) SX.out ?restAx97
                case hyAx97 => (intro w hSw; go_simp; try (with_reducible rfl))
                simp only [Act.put, List.setIfInBounds_toArray, List.set_cons_zero, List.set_cons_succ]
                refine AnyBut.take (i := 8) (oi := ⟨some 59, _, _, _, _, none⟩) (v := ?vAx98) rfl (by as_aux_lemma => kernel_rfl) (by as_aux_lemma => kernel_rfl) (by as_aux_lemma => kernel_rfl) (by as_aux_lemma => kernel_rfl) (fun _ _ _ h => h) (Or.inl ⟨by as_aux_lemma => rfl, ?hyAx98⟩) SX.out ?restAx98
                case hyAx98 => (intro w hSw; go_simp; try (with_reducible rfl))
                simp only [Act.put, List.setIfInBounds_toArray, List.set_cons_zero, List.set_cons_succ]
                clear SX
                have KS := KA.out.sets (ivCells dw (.slice za m2 zc)) rfl
                have ES := EE.out.kept (Kept.setCells (ivCells dw (.slice za m2 zc)) 0 _ (Kept.refl (fun x => x = _) _)) (EE.out.apart KA.out (show lEnt.ty ≠ 29 by decide))
                have BS := below_setCells NA.out (ivCells dw (.slice za m2 zc)) 0 _ BB.out
                have SN := HSL.out _ BS
                refine AnyBut.one (i := 10) (o := ⟨none, _, _, _, _, none⟩) (by as_aux_lemma => kernel_rfl) rfl (fun K hK => ?_)
                rw [if_pos (by as_aux_lemma => rfl)]
                refine wp_store_mid 29 (.tmp 12) (.tmp 58) rfl _ 0 (ivCells dw (.slice za m2 zc)).toArray rfl rfl (KA.out.there 9 (Nat.le_refl _)) ivInfoS (iv_one _ _ _ _) ?_
                refine hK.out _ _ (fun _ => SN) ?_
                clear hK K
                try simp only [Act.put]
                refine AnyBut.one (i := 11) (o := ⟨some 13, _, _, _, _, none⟩) (by as_aux_lemma => kernel_rfl) rfl (fun K hK => ?_)
                go_simp
                refine hK.out _ _ (fun h => absurd rfl h) ?_
                clear hK K
                try simp only [Act.put, List.setIfInBounds_toArray, List.set_cons_zero, List.set_cons_succ]
                refine AnyBut.done (by as_aux_lemma => kernel_rfl) ?_ _
                go_wp2
                go_meet
                case rel => exact ⟨_, za, zc, rfl, rfl, HB.vb KS, ES, ZZ.out, BS⟩
              · go_simp
                refine (ownI_any u ds q29 YL.out FL.out).mono ?_
                rintro ev q34 ⟨y, dy, rfl, hy, hr, hs⟩
                have RY := Lib.hid hr
                have YY := Lib.hid (hy.mono BB.out.size)
                have BB := Lib.hid (BB.out.trans (hs.mono BB.out.size))
                have RD := Lib.hid (RD.out.below hs)
                have KA := Lib.hid (KA.out.below hs)
                have SN := HSL.out _ BB.out
                clear hy hr hs YL
                refine hK.out _ _ (fun _ => SN) ?_
                clear hK K SN
                try simp only [Act.put, List.setIfInBounds_toArray, List.set_cons_zero, List.set_cons_succ]
                refine AnyBut.one (i := 1) (o := ⟨some 53, _, _, _, _, none⟩) (by as_aux_lemma => kernel_rfl) rfl (fun K hK => ?_)
                have hb := alloc_below0 q34 (.cells #[.int .i64 9, .string ⟨#[]⟩, .string ⟨#[]⟩, .bool false, .int .i64 0, .slice ra 0 rc, .slice ea 0 ec, .string kx, .string ⟨#[]⟩, .int .i64 page, .int .i64 0, .int .i64 0, .string ⟨#[]⟩, .int .i64 0, .int .i64 0] 39)
                have KB := Lib.hid (HB.new (.cells #[.int .i64 9, .string ⟨#[]⟩, .string ⟨#[]⟩, .bool false, .int .i64 0, .slice ra 0 rc, .slice ea 0 ec, .string kx, .string ⟨#[]⟩, .int .i64 page, .int .i64 0, .int .i64 0, .string ⟨#[]⟩, .int .i64 0, .int .i64 0] 39) q34)
                have NZ := Lib.hid (show w5.heap.size ≤ q34.heap.size from BB.out.size)
                have NB := Lib.hid NZ.out
                have NE := Lib.hid (show _ ≠ _ from (Nat.ne_of_lt KA.out.lt))
                have BB := Lib.hid (BB.out.trans (hb.mono BB.out.size))
                have RD := Lib.hid (RD.out.below hb)
                have YY := Lib.hid (YY.out.below hb)
                have KA := Lib.hid (KA.out.below hb)
                have SN := HSL.out _ BB.out
                go_simp
                refine hK.out _ _ (fun _ => SN) ?_
                clear hK K SN hb NZ
                generalize hG : World.alloc q34 _ = q35 at BB RD KB YY KA ⊢
                clear hG
                try simp only [Act.put, List.setIfInBounds_toArray, List.set_cons_zero, List.set_cons_succ]
                refine AnyBut.one (i := 4) (o := ⟨some 56, _, _, _, _, none⟩) (by as_aux_lemma => kernel_rfl) rfl (fun K hK => ?_)
                have PP := ChO.of_rec (base := w.heap.size) (d := (⟨(⟨9, ⟨#[]⟩, ⟨#[]⟩, false, 0, kx, ⟨#[]⟩, page, 0, 0, ⟨#[]⟩, 0, 0⟩ : Sc), ra, rc, ea, ec, [], []⟩ : RcD)) (Nat.le_trans S_B.out.size NB.out) KB.out RD.out
                have PO := OwnS.of_rec (base := w5.heap.size) (d := (⟨(⟨9, ⟨#[]⟩, ⟨#[]⟩, false, 0, kx, ⟨#[]⟩, page, 0, 0, ⟨#[]⟩, 0, 0⟩ : Sc), ra, rc, ea, ec, [], []⟩ : RcD)) NB.out KB.out
                refine step_appS lRec 22 Try.underlying22 lRec_known (by decide) (by decide) rfl (.tmp 53) (.tmp 55) rfl w5.heap.size rfl rfl PO YY.out.own.sv (by have := (few_read FW.out RY.out).1; simp; omega) BB.out.size ?_
                intro v7 q36 ho hg
                have QQ := Lib.hid (PP.append YY.out S_B.out.size (ho.mono S_B.out.size) hg)
                have KA := Lib.hid (HB.grown KA.out hg (fun h => NE.out (Option.some.inj h)))
                have BB := Lib.hid (BB.out.grown hg BB.out.size (fun k hk => (World.ownsRow.lt PO k hk).1))
                have SN := HSL.out _ BB.out
                clear PP PO ho hg KB YY NB RD NE
                refine hK.out _ _ (fun _ => SN) ?_
                clear hK K SN
                try simp only [Act.put, List.setIfInBounds_toArray, List.set_cons_zero, List.set_cons_succ]
                refine AnyBut.one (i := 5) (o := ⟨some 57, _, _, _, _, none⟩) (by as_aux_lemma => kernel_rfl) rfl (fun K hK => ?_)
                have RQ := (show readC ([(⟨(⟨9, ⟨#[]⟩, ⟨#[]⟩, false, 0, kx, ⟨#[]⟩, page, 0, 0, ⟨#[]⟩, 0, 0⟩ : Sc), ra, rc, ea, ec, [], []⟩ : RcD)] ++ dy) = splitI9 kx page :: readC ds by (rw [readC_app, RY.out]; rfl))
                have e1 := (show ([(⟨(⟨9, ⟨#[]⟩, ⟨#[]⟩, false, 0, kx, ⟨#[]⟩, page, 0, 0, ⟨#[]⟩, 0, 0⟩ : Sc), ra, rc, ea, ec, [], []⟩ : RcD)] ++ dy).length ≤ 100 by (have := (few_read FW.out RY.out).1; simp; omega))
                have e2 := (show (([(⟨(⟨9, ⟨#[]⟩, ⟨#[]⟩, false, 0, kx, ⟨#[]⟩, page, 0, 0, ⟨#[]⟩, 0, 0⟩ : Sc), ra, rc, ea, ec, [], []⟩ : RcD)] ++ dy).map fun d => d.ents.length).sum ≤ 1000 by (have := (few_read FW.out RY.out).2; simp; omega))
                go_simp
                refine (C.fold _ _ _ q36 QQ.out e1 e2).mono ?_
                rintro ev q37 ⟨en2, rfl, hen, hsz, hs⟩
                rw [RQ, CY.out.2] at hen hsz
                rw [RQ, CY.out.1, CY.out.2, errV_zero rfl]
                obtain ⟨za, zc, rfl, -, -⟩ := hen.lenN HM2.out
                unfold ivVal
                have EE := Lib.hid (hen.mono BB.out.size)
                have ZZ := Lib.hid hsz
                have BB := Lib.hid (BB.out.trans (hs.mono BB.out.size))
                have KA := Lib.hid (KA.out.below hs)
                have SN := HSL.out _ BB.out
                clear hen hsz hs RQ e1 e2 QQ
                refine hK.out _ _ (fun _ => SN) ?_
                clear hK K SN
                have SX := Lib.hid (HSL.out _ BB.out)
                refine AnyBut.take (i := 6) (oi := ⟨some 51, _, _, _, _, none⟩) (v := ?vAx106) rfl (by as_aux_lemma => kernel_rfl) (by as_aux_lemma => kernel_rfl) (by as_aux_lemma => kernel_rfl) (by as_aux_lemma => kernel_rfl) (fun _ _ _ h => h) (Or.inl ⟨by as_aux_lemma => rfl, ?hyAx106⟩) SX.out ?restAx106
                case hyAx106 => (intro w hSw; go_simp; try (with_reducible rfl))
                simp only [Act.put, List.setIfInBounds_toArray, List.set_cons_zero, List.set_cons_succ]
                refine AnyBut.take (i := 7) (oi := ⟨some 58, _, _, _, _, none⟩) (v := ?vAx107) rfl (by as_aux_lemma => kernel_rfl) (by as_aux_lemma => kernel_rfl) (by as_aux_lemma => kernel_rfl) (by as_aux_lemma => kernel_rfl) (fun _ _ _ h => h) (Or.inl ⟨by as_aux_lemma => rfl, ?hyAx107⟩) SX.out ?restAx107
                case hyAx107 => (intro w hSw; go_simp; try (with_reducible rfl))
                simp only [Act.put, List.setIfInBounds_toArray, List.set_cons_zero, List.set_cons_succ]
                refine AnyBut.take (i := 8) (oi := ⟨some 59, _, _, _, _, none⟩) (v := ?vAx108) rfl (by as_aux_lemma => kernel_rfl) (by as_aux_lemma => kernel_rfl) (by as_aux_lemma => kernel_rfl) (by as_aux_lemma => kernel_rfl) (fun _ _ _ h => h) (Or.inl ⟨by as_aux_lemma => rfl, ?hyAx108⟩) SX.out ?restAx108
                case hyAx108 => (intro w hSw; go_simp; try (with_reducible rfl))
                simp only [Act.put, List.setIfInBounds_toArray, List.set_cons_zero, List.set_cons_succ]
                clear SX
                have KS := KA.out.sets (ivCells dw (.slice za m2 zc)) rfl
                have ES := EE.out.kept (Kept.setCells (ivCells dw (.slice za m2 zc)) 0 _ (Kept.refl (fun x => x = _) _)) (EE.out.apart KA.out (show lEnt.ty ≠ 29 by decide))
                have BS := below_setCells NA.out (ivCells dw (.slice za m2 zc)) 0 _ BB.out
                have SN := HSL.out _ BS
                refine AnyBut.one (i := 10) (o := ⟨none, _, _, _, _, none⟩) (by as_aux_lemma => kernel_rfl) rfl (fun K hK => ?_)
                rw [if_pos (by as_aux_lemma => rfl)]
                refine wp_store_mid 29 (.tmp 12) (.tmp 58) rfl _ 0 (ivCells dw (.slice za m2 zc)).toArray rfl rfl (KA.out.there 9 (Nat.le_refl _)) ivInfoS (iv_one _ _ _ _) ?_
                refine hK.out _ _ (fun _ => SN) ?_
                clear hK K
                try simp only [Act.put]
                refine AnyBut.one (i := 11) (o := ⟨some 13, _, _, _, _, none⟩) (by as_aux_lemma => kernel_rfl) rfl (fun K hK => ?_)
                go_simp
                refine hK.out _ _ (fun h => absurd rfl h) ?_
                clear hK K
                try simp only [Act.put, List.setIfInBounds_toArray, List.set_cons_zero, List.set_cons_succ]
                refine AnyBut.done (by as_aux_lemma => kernel_rfl) ?_ _
                go_wp2
                go_meet
                case rel => exact ⟨_, za, zc, rfl, rfl, HB.vb KS, ES, ZZ.out, BS⟩
          case rest =>
            obtain ⟨nbA, zaA, zcA, rfl, rfl, hV, hE, hZ, hs⟩ := hcut
            obtain ⟨wcA, hwq⟩ : ∃ x, x = wc := ⟨_, rfl⟩
            subst hwq
            have S5 := Lib.hid (S_B.out.size)
            have L7 := Lib.hid (L6.out.below hs)
            have B7 := Lib.hid (B6.out.trans (hs.mono B6.out.size))
            have X5 := Lib.hid (X4.out.below hs)
            have E4 := Lib.hid (E3.out.below hs)
            have V3 := Lib.hid (V2.out.below hs)
            have H3 := Lib.hid (H2.out.below hs)
            have J2 := Lib.hid (J1.out.below hs)
            have I2 := Lib.hid (I1.out.below hs)
            have SA1 := Lib.hid (SA0.out.below hs)
            have SB1 := Lib.hid (SB0.out.below hs)
            have W1 := Lib.hid (W0.out.trans (hs.mono W0.out.size))
            clear L6 B6 X4 E3 V2 H2 J1 I1 SA0 SB0 W0
            have UW0 := Lib.hid (hV)
            have FA0 := Lib.hid (hE.mono S5.out)
            have YW0 := Lib.hid (hZ)
            clear hs hV hE hZ S5 HSL FL CY W1 S_L S_B S_X S_E S_V S_H S_J S_I S_SA S_SB
            have S7 := Lib.hid B7.out.size
            have b_0 := SB1.out.cell 0
            have b_1 := SB1.out.cell 1
            have b_2 := SB1.out.cell 2
            have b_3 := SB1.out.cell 3
            have b_4 := SB1.out.cell 4
            have b_5 := SB1.out.cell 5
            have b_6 := SB1.out.cell 6
            have b_7 := SB1.out.cell 7
            have b_8 := SB1.out.cell 8
            have b_9 := SB1.out.cell 9
            have b_10 := SB1.out.cell 10
            have b_11 := SB1.out.cell 11
            have b_12 := SB1.out.cell 12
            have b_13 := SB1.out.cell 13
            have b_14 := SB1.out.cell 14
            simp at b_0 b_1 b_2 b_3 b_4 b_5 b_6 b_7 b_8 b_9 b_10 b_11 b_12 b_13 b_14
            have hs := alloc_below0 wcA (.cells #[.int .i64 7, .string kx, .string v.high, .bool v.unb, .int .i64 v.right, .slice rb 0 rq, .slice eb rt.length eq, .string ⟨#[]⟩, .string ⟨#[]⟩, .int .i64 0, .int .i64 0, .int .i64 0, .string ⟨#[]⟩, .int .i64 0, .int .i64 0] 39)
            have L8 := Lib.hid (L7.out.below hs)
            have B8 := Lib.hid (B7.out.trans (hs.mono B7.out.size))
            have X6 := Lib.hid (X5.out.below hs)
            have E5 := Lib.hid (E4.out.below hs)
            have V4 := Lib.hid (V3.out.below hs)
            have H4 := Lib.hid (H3.out.below hs)
            have J3 := Lib.hid (J2.out.below hs)
            have I3 := Lib.hid (I2.out.below hs)
            have SA2 := Lib.hid (SA1.out.below hs)
            have SB2 := Lib.hid (SB1.out.below hs)
            have UW1 := Lib.hid (UW0.out.below hs)
            have FA1 := Lib.hid (FA0.out.below hs)
            clear L7 B7 X5 E4 V3 H3 J2 I2 SA1 SB1 UW0 FA0
            have P0 := Lib.hid (show ChO w.heap.size (wcA.alloc (.cells #[.int .i64 7, .string kx, .string v.high, .bool v.unb, .int .i64 v.right, .slice rb 0 rq, .slice eb rt.length eq, .string ⟨#[]⟩, .string ⟨#[]⟩, .int .i64 0, .int .i64 0, .int .i64 0, .string ⟨#[]⟩, .int .i64 0, .int .i64 0] 39)) (.slice (some ⟨wcA.heap.size, 0, none⟩) 1 1) [(⟨(⟨7, kx, v.high, v.unb, v.right, ⟨#[]⟩, ⟨#[]⟩, 0, 0, 0, ⟨#[]⟩, 0, 0⟩ : Sc), rb, rq, eb, eq, [], rt⟩ : RcD)] from ChO.of_rec (base := w.heap.size) S7.out (HB.new (.cells #[.int .i64 7, .string kx, .string v.high, .bool v.unb, .int .i64 v.right, .slice rb 0 rq, .slice eb rt.length eq, .string ⟨#[]⟩, .string ⟨#[]⟩, .int .i64 0, .int .i64 0, .int .i64 0, .string ⟨#[]⟩, .int .i64 0, .int .i64 0] 39) wcA) I3.out)
            clear hs
            go_wp2_with fail
            refine (C.fold _ _ [(⟨(⟨7, kx, v.high, v.unb, v.right, ⟨#[]⟩, ⟨#[]⟩, 0, 0, 0, ⟨#[]⟩, 0, 0⟩ : Sc), rb, rq, eb, eq, [], rt⟩ : RcD)] _ P0.out (show 1 ≤ 100 by decide) (show (rt.length + 0) ≤ 1000 from by have := NL.out; omega)).mono ?_
            rintro ev w6 ⟨en2, rfl, hen, hsz, hs⟩
            rw [show readC [(⟨(⟨7, kx, v.high, v.unb, v.right, ⟨#[]⟩, ⟨#[]⟩, 0, 0, 0, ⟨#[]⟩, 0, 0⟩ : Sc), rb, rq, eb, eq, [], rt⟩ : RcD)] = [baseI7 kx v.high v.unb v.right rt] from rfl, CX.out.2] at hen hsz
            rw [show readC [(⟨(⟨7, kx, v.high, v.unb, v.right, ⟨#[]⟩, ⟨#[]⟩, 0, 0, 0, ⟨#[]⟩, 0, 0⟩ : Sc), rb, rq, eb, eq, [], rt⟩ : RcD)] = [baseI7 kx v.high v.unb v.right rt] from rfl, CX.out.1, CX.out.2, errV_zero rfl]
            obtain ⟨zaB, zcB, rfl, -, -⟩ := hen.lenN HM3.out
            clear b_0 b_1 b_2 b_3 b_4 b_5 b_6 b_7 b_8 b_9 b_10 b_11 b_12 b_13 b_14
            have L9 := Lib.hid (L8.out.below hs)
            have B9 := Lib.hid (B8.out.trans (hs.mono B8.out.size))
            have X7 := Lib.hid (X6.out.below hs)
            have E6 := Lib.hid (E5.out.below hs)
            have V5 := Lib.hid (V4.out.below hs)
            have H5 := Lib.hid (H4.out.below hs)
            have J4 := Lib.hid (J3.out.below hs)
            have I4 := Lib.hid (I3.out.below hs)
            have SA3 := Lib.hid (SA2.out.below hs)
            have SB3 := Lib.hid (SB2.out.below hs)
            have UW2 := Lib.hid (UW1.out.below hs)
            have FA2 := Lib.hid (FA1.out.below hs)
            have P1 := Lib.hid (P0.out.below hs)
            clear L8 B8 X6 E5 V4 H4 J3 I3 SA2 SB2 UW1 FA1 P0
            have FX0 := Lib.hid (hen)
            have YX0 := Lib.hid (hsz)
            clear hs hen hsz
            unfold ivVal
            have hs := alloc_below0 w6 (ivObj xv (.slice zaB m3 zcB))
            have L10 := Lib.hid (L9.out.below hs)
            have B10 := Lib.hid (B9.out.trans (hs.mono B9.out.size))
            have X8 := Lib.hid (X7.out.below hs)
            have E7 := Lib.hid (E6.out.below hs)
            have V6 := Lib.hid (V5.out.below hs)
            have H6 := Lib.hid (H5.out.below hs)
            have J5 := Lib.hid (J4.out.below hs)
            have I5 := Lib.hid (I4.out.below hs)
            have SA4 := Lib.hid (SA3.out.below hs)
            have SB4 := Lib.hid (SB3.out.below hs)
            have UW3 := Lib.hid (UW2.out.below hs)
            have FA3 := Lib.hid (FA2.out.below hs)
            have P2 := Lib.hid (P1.out.below hs)
            have FX1 := Lib.hid (FX0.out.below hs)
            clear L9 B9 X7 E6 V5 H5 J4 I4 SA3 SB3 UW2 FA2 P1 FX0
            have UX0 := Lib.hid (VB.new xv (.slice zaB m3 zcB) w6)
            clear hs
            unfold ivObj at L10 B10 X8 E7 V6 H6 J5 I5 SA4 SB4 UW3 FA3 P2 FX1 UX0
            go_wp2_with fail
            generalize hw7 : World.alloc w6 _ = w7 at *
            clear hw7
            clear SA4
            clear SB4
            clear J5
            clear I5
            clear X8
            clear L10
            clear P2
            have HS9 := Lib.hid (show ∀ w', Below w7.heap.size w7 w' → (fun w' => w'.cell? ⟨nbA, 1, none⟩ = some (.string kx) ∧ w'.cell? ⟨nbA, 2, none⟩ = some (.bool false) ∧ w'.cell? ⟨nbA, 3, none⟩ = some (.int .i64 page) ∧ w'.cell? ⟨nbA, 4, none⟩ = some (.slice zaA m2 zcA) ∧ w'.cell? ⟨w6.heap.size, 0, none⟩ = some (.string kx) ∧ w'.cell? ⟨w6.heap.size, 1, none⟩ = some (.string v.high) ∧ w'.cell? ⟨w6.heap.size, 2, none⟩ = some (.bool v.unb) ∧ w'.cell? ⟨w6.heap.size, 3, none⟩ = some (.int .i64 v.right) ∧ w'.cell? ⟨w6.heap.size, 4, none⟩ = some (.slice zaB m3 zcB) ∧ w'.cell? ⟨w3.heap.size, 1, none⟩ = some (.string v.high) ∧ w'.cell? ⟨w3.heap.size, 2, none⟩ = some (.bool v.unb) ∧ w'.cell? ⟨w3.heap.size, 3, none⟩ = some (.int .i64 v.right) ∧ w'.cell? ⟨w3.heap.size, 4, none⟩ = some (.slice xa m xc)) w' from fun w' hs => ⟨(by rw [← P3.out.1]; exact ((UW3.out.below hs).c1)), (by rw [← P5.out.1]; exact ((UW3.out.below hs).c2)), (by rw [← P5.out.2]; exact ((UW3.out.below hs).c3)), ((UW3.out.below hs).c4), (by rw [← P3.out.2]; exact ((UX0.out.below hs).c0)), (by rw [← P7.out.2.1]; exact ((UX0.out.below hs).c1)), (by rw [← P7.out.2.2]; exact ((UX0.out.below hs).c2)), (by rw [← P7.out.1]; exact ((UX0.out.below hs).c3)), ((UX0.out.below hs).c4), ((V6.out.below hs).c1), ((V6.out.below hs).c2), ((V6.out.below hs).c3), ((V6.out.below hs).c4)⟩)
            have BB := Lib.hid (Below.refl w7.heap.size w7).drew
            have FAq := Lib.hid (FA3.out.below (Below.refl _ _).drew)
            have FXq := Lib.hid (FX1.out.below (Below.refl _ _).drew)
            have EEq := Lib.hid (E7.out.below (Below.refl _ _).drew)
            have k1 : (kx.toList == kx.toList) = true := by simp
            have k2 : (v.high.toList == v.high.toList) = true := by simp
            refine anyH_region (fun w' => w'.cell? ⟨nbA, 1, none⟩ = some (.string kx) ∧ w'.cell? ⟨nbA, 2, none⟩ = some (.bool false) ∧ w'.cell? ⟨nbA, 3, none⟩ = some (.int .i64 page) ∧ w'.cell? ⟨nbA, 4, none⟩ = some (.slice zaA m2 zcA) ∧ w'.cell? ⟨w6.heap.size, 0, none⟩ = some (.string kx) ∧ w'.cell? ⟨w6.heap.size, 1, none⟩ = some (.string v.high) ∧ w'.cell? ⟨w6.heap.size, 2, none⟩ = some (.bool v.unb) ∧ w'.cell? ⟨w6.heap.size, 3, none⟩ = some (.int .i64 v.right) ∧ w'.cell? ⟨w6.heap.size, 4, none⟩ = some (.slice zaB m3 zcB) ∧ w'.cell? ⟨w3.heap.size, 1, none⟩ = some (.string v.high) ∧ w'.cell? ⟨w3.heap.size, 2, none⟩ = some (.bool v.unb) ∧ w'.cell? ⟨w3.heap.size, 3, none⟩ = some (.int .i64 v.right) ∧ w'.cell? ⟨w3.heap.size, 4, none⟩ = some (.slice xa m xc)) (by as_aux_lemma => kernel_rfl) ?_
            obtain ⟨q0, hq0⟩ : ∃ W, W = World.drew w7 := ⟨_, rfl⟩
            rw [← hq0] at BB FAq FXq EEq ⊢
            clear hq0
            have SD := Lib.hid (HS9.out q0 BB.out)
            refine wpAnyH_take (i := 0) (oi := ⟨some 66, _, _, _, _, _⟩) (v := ?vn0) rfl (by as_aux_lemma => kernel_rfl) (by as_aux_lemma => kernel_rfl) (by as_aux_lemma => kernel_rfl) (fun _ _ _ h => h) (Or.inl ⟨by as_aux_lemma => rfl, ?hyn0⟩) SD.out ?restn0
            case hyn0 => (intro w hSw; go_simp; try (with_reducible rfl))
            simp only [Act.put, List.setIfInBounds_toArray, List.set_cons_zero, List.set_cons_succ]
            refine wpAnyH_take (i := 1) (oi := ⟨some 67, _, _, _, _, _⟩) (v := ?vn1) rfl (by as_aux_lemma => kernel_rfl) (by as_aux_lemma => kernel_rfl) (by as_aux_lemma => kernel_rfl) (fun _ _ _ h => h) (Or.inl ⟨by as_aux_lemma => rfl, ?hyn1⟩) SD.out ?restn1
            case hyn1 => (intro w hSw; go_simp; try (with_reducible rfl))
            simp only [Act.put, List.setIfInBounds_toArray, List.set_cons_zero, List.set_cons_succ]
            refine wpAnyH_take (i := 2) (oi := ⟨some 68, _, _, _, _, _⟩) (v := ?vn2) rfl (by as_aux_lemma => kernel_rfl) (by as_aux_lemma => kernel_rfl) (by as_aux_lemma => kernel_rfl) (fun _ _ _ h => h) (Or.inl ⟨by as_aux_lemma => rfl, ?hyn2⟩) SD.out ?restn2
            case hyn2 => (intro w hSw; go_simp; try (with_reducible rfl))
            simp only [Act.put, List.setIfInBounds_toArray, List.set_cons_zero, List.set_cons_succ]
            refine wpAnyH_take (i := 3) (oi := ⟨some 69, _, _, _, _, _⟩) (v := ?vn3) rfl (by as_aux_lemma => kernel_rfl) (by as_aux_lemma => kernel_rfl) (by as_aux_lemma => kernel_rfl) (fun _ _ _ h => h) (Or.inl ⟨by as_aux_lemma => rfl, ?hyn3⟩) SD.out ?restn3
            case hyn3 => (intro w hSw; go_simp; try (with_reducible rfl))
            simp only [Act.put, List.setIfInBounds_toArray, List.set_cons_zero, List.set_cons_succ]
            refine wpAnyH_take (i := 4) (oi := ⟨some 70, _, _, _, _, _⟩) (v := ?vn4) rfl (by as_aux_lemma => kernel_rfl) (by as_aux_lemma => kernel_rfl) (by as_aux_lemma => kernel_rfl) (fun _ _ _ h => h) (Or.inl ⟨by as_aux_lemma => rfl, ?hyn4⟩) SD.out ?restn4
            case hyn4 => (intro w hSw; go_simp; try (with_reducible rfl))
            simp only [Act.put, List.setIfInBounds_toArray, List.set_cons_zero, List.set_cons_succ]
            refine wpAnyH_take (i := 5) (oi := ⟨some 71, _, _, _, _, _⟩) (v := ?vn5) rfl (by as_aux_lemma => kernel_rfl) (by as_aux_lemma => kernel_rfl) (by as_aux_lemma => kernel_rfl) (fun _ _ _ h => h) (Or.inl ⟨by as_aux_lemma => rfl, ?hyn5⟩) SD.out ?restn5
            case hyn5 => (intro w hSw; go_simp; try (with_reducible rfl))
            simp only [Act.put, List.setIfInBounds_toArray, List.set_cons_zero, List.set_cons_succ]
            refine wpAnyH_take (i := 6) (oi := ⟨some 72, _, _, _, _, _⟩) (v := ?vn6) rfl (by as_aux_lemma => kernel_rfl) (by as_aux_lemma => kernel_rfl) (by as_aux_lemma => kernel_rfl) (fun _ _ _ h => h) (Or.inl ⟨by as_aux_lemma => rfl, ?hyn6⟩) SD.out ?restn6
            case hyn6 => (intro w hSw; go_simp; try (with_reducible rfl))
            simp only [Act.put, List.setIfInBounds_toArray, List.set_cons_zero, List.set_cons_succ]
            refine wpAnyH_take (i := 7) (oi := ⟨some 73, _, _, _, _, _⟩) (v := ?vn7) rfl (by as_aux_lemma => kernel_rfl) (by as_aux_lemma => kernel_rfl) (by as_aux_lemma => kernel_rfl) (fun _ _ _ h => h) (Or.inl ⟨by as_aux_lemma => rfl, ?hyn7⟩) SD.out ?restn7
            case hyn7 => (intro w hSw; go_simp; try (with_reducible rfl))
            simp only [Act.put, List.setIfInBounds_toArray, List.set_cons_zero, List.set_cons_succ]
            refine wpAnyH_take (i := 8) (oi := ⟨some 74, _, _, _, _, _⟩) (v := ?vn8) rfl (by as_aux_lemma => kernel_rfl) (by as_aux_lemma => kernel_rfl) (by as_aux_lemma => kernel_rfl) (fun _ _ _ h => h) (Or.inl ⟨by as_aux_lemma => rfl, ?hyn8⟩) SD.out ?restn8
            case hyn8 => (intro w hSw; go_simp; try (with_reducible rfl))
            simp only [Act.put, List.setIfInBounds_toArray, List.set_cons_zero, List.set_cons_succ]
            refine wpAnyH_take (i := 9) (oi := ⟨some 75, _, _, _, _, _⟩) (v := ?vn9) rfl (by as_aux_lemma => kernel_rfl) (by as_aux_lemma => kernel_rfl) (by as_aux_lemma => kernel_rfl) (fun _ _ _ h => h) (Or.inl ⟨by as_aux_lemma => rfl, ?hyn9⟩) SD.out ?restn9
            case hyn9 => (intro w hSw; go_simp; try (with_reducible rfl))
            simp only [Act.put, List.setIfInBounds_toArray, List.set_cons_zero, List.set_cons_succ]
            refine wpAnyH_take (i := 10) (oi := ⟨some 76, _, _, _, _, _⟩) (v := ?vn10) rfl (by as_aux_lemma => kernel_rfl) (by as_aux_lemma => kernel_rfl) (by as_aux_lemma => kernel_rfl) (fun _ _ _ h => h) (Or.inl ⟨by as_aux_lemma => rfl, ?hyn10⟩) SD.out ?restn10
            case hyn10 => (intro w hSw; go_simp; try (with_reducible rfl))
            simp only [Act.put, List.setIfInBounds_toArray, List.set_cons_zero, List.set_cons_succ]
            refine wpAnyH_take (i := 11) (oi := ⟨some 77, _, _, _, _, _⟩) (v := ?vn11) rfl (by as_aux_lemma => kernel_rfl) (by as_aux_lemma => kernel_rfl) (by as_aux_lemma => kernel_rfl) (fun _ _ _ h => h) (Or.inl ⟨by as_aux_lemma => rfl, ?hyn11⟩) SD.out ?restn11
            case hyn11 => (intro w hSw; go_simp; try (with_reducible rfl))
            simp only [Act.put, List.setIfInBounds_toArray, List.set_cons_zero, List.set_cons_succ]
            refine wpAnyH_take (i := 12) (oi := ⟨some 78, _, _, _, _, _⟩) (v := ?vn12) rfl (by as_aux_lemma => kernel_rfl) (by as_aux_lemma => kernel_rfl) (by as_aux_lemma => kernel_rfl) (fun _ _ _ h => h) (Or.inl ⟨by as_aux_lemma => rfl, ?hyn12⟩) SD.out ?restn12
            case hyn12 => (intro w hSw; go_simp; try (with_reducible rfl))
            simp only [Act.put, List.setIfInBounds_toArray, List.set_cons_zero, List.set_cons_succ]
            refine wpAnyH_take (i := 13) (oi := ⟨some 79, _, _, _, _, _⟩) (v := ?vn13) rfl (by as_aux_lemma => kernel_rfl) (by as_aux_lemma => kernel_rfl) (by as_aux_lemma => kernel_rfl) (fun _ _ _ h => h) (Or.inl ⟨by as_aux_lemma => rfl, ?hyn13⟩) SD.out ?restn13
            case hyn13 => (intro w hSw; go_simp; try (with_reducible rfl))
            simp only [Act.put, List.setIfInBounds_toArray, List.set_cons_zero, List.set_cons_succ]
            refine wpAnyH_take (i := 14) (oi := ⟨some 80, _, _, _, _, _⟩) (v := ?vn14) rfl (by as_aux_lemma => kernel_rfl) (by as_aux_lemma => kernel_rfl) (by as_aux_lemma => kernel_rfl) (fun _ _ _ h => h) (Or.inl ⟨by as_aux_lemma => rfl, ?hyn14⟩) SD.out ?restn14
            case hyn14 => (intro w hSw; go_simp; try (with_reducible rfl))
            simp only [Act.put, List.setIfInBounds_toArray, List.set_cons_zero, List.set_cons_succ]
            refine wpAnyH_take (i := 15) (oi := ⟨some 81, _, _, _, _, _⟩) (v := ?vn15) rfl (by as_aux_lemma => kernel_rfl) (by as_aux_lemma => kernel_rfl) (by as_aux_lemma => kernel_rfl) (fun _ _ _ h => h) (Or.inl ⟨by as_aux_lemma => rfl, ?hyn15⟩) SD.out ?restn15
            case hyn15 => (intro w hSw; go_simp; try (with_reducible rfl))
            simp only [Act.put, List.setIfInBounds_toArray, List.set_cons_zero, List.set_cons_succ]
            refine wpAnyH_take (i := 16) (oi := ⟨some 82, _, _, _, _, _⟩) (v := ?vn16) rfl (by as_aux_lemma => kernel_rfl) (by as_aux_lemma => kernel_rfl) (by as_aux_lemma => kernel_rfl) (fun _ _ _ h => h) (Or.inl ⟨by as_aux_lemma => rfl, ?hyn16⟩) SD.out ?restn16
            case hyn16 => (intro w hSw; go_simp; try (with_reducible rfl))
            simp only [Act.put, List.setIfInBounds_toArray, List.set_cons_zero, List.set_cons_succ]
            refine wpAnyH_take (i := 17) (oi := ⟨some 83, _, _, _, _, _⟩) (v := ?vn17) rfl (by as_aux_lemma => kernel_rfl) (by as_aux_lemma => kernel_rfl) (by as_aux_lemma => kernel_rfl) (fun _ _ _ h => h) (Or.inl ⟨by as_aux_lemma => rfl, ?hyn17⟩) SD.out ?restn17
            case hyn17 => (intro w hSw; go_simp; try (with_reducible rfl))
            simp only [Act.put, List.setIfInBounds_toArray, List.set_cons_zero, List.set_cons_succ]
            refine wpAnyH_take (i := 18) (oi := ⟨some 84, _, _, _, _, _⟩) (v := ?vn18) rfl (by as_aux_lemma => kernel_rfl) (by as_aux_lemma => kernel_rfl) (by as_aux_lemma => kernel_rfl) (fun _ _ _ h => h) (Or.inl ⟨by as_aux_lemma => rfl, ?hyn18⟩) SD.out ?restn18
            case hyn18 => (intro w hSw; go_simp; try (with_reducible rfl))
            simp only [Act.put, List.setIfInBounds_toArray, List.set_cons_zero, List.set_cons_succ]
            refine wpAnyH_take (i := 19) (oi := ⟨some 85, _, _, _, _, _⟩) (v := ?vn19) rfl (by as_aux_lemma => kernel_rfl) (by as_aux_lemma => kernel_rfl) (by as_aux_lemma => kernel_rfl) (fun _ _ _ h => h) (Or.inl ⟨by as_aux_lemma => rfl, ?hyn19⟩) SD.out ?restn19
            case hyn19 => (intro w hSw; go_simp; try (with_reducible rfl))
            simp only [Act.put, List.setIfInBounds_toArray, List.set_cons_zero, List.set_cons_succ]
            refine wpAnyH_take (i := 20) (oi := ⟨some 86, _, _, _, _, _⟩) (v := ?vn20) rfl (by as_aux_lemma => kernel_rfl) (by as_aux_lemma => kernel_rfl) (by as_aux_lemma => kernel_rfl) (fun _ _ _ h => h) (Or.inl ⟨by as_aux_lemma => rfl, ?hyn20⟩) SD.out ?restn20
            case hyn20 => (intro w hSw; go_simp; try (with_reducible rfl))
            simp only [Act.put, List.setIfInBounds_toArray, List.set_cons_zero, List.set_cons_succ]
            refine wpAnyH_take (i := 21) (oi := ⟨some 87, _, _, _, _, _⟩) (v := ?vn21) rfl (by as_aux_lemma => kernel_rfl) (by as_aux_lemma => kernel_rfl) (by as_aux_lemma => kernel_rfl) (fun _ _ _ h => h) (Or.inl ⟨by as_aux_lemma => rfl, ?hyn21⟩) SD.out ?restn21
            case hyn21 => (intro w hSw; go_simp; try (with_reducible rfl))
            simp only [Act.put, List.setIfInBounds_toArray, List.set_cons_zero, List.set_cons_succ]
            refine wpAnyH_take (i := 22) (oi := ⟨some 88, _, _, _, _, _⟩) (v := ?vn22) rfl (by as_aux_lemma => kernel_rfl) (by as_aux_lemma => kernel_rfl) (by as_aux_lemma => kernel_rfl) (fun _ _ _ h => h) (Or.inl ⟨by as_aux_lemma => rfl, ?hyn22⟩) SD.out ?restn22
            case hyn22 => (intro w hSw; go_simp; try (with_reducible rfl))
            simp only [Act.put, List.setIfInBounds_toArray, List.set_cons_zero, List.set_cons_succ]
            refine wpAnyH_take (i := 23) (oi := ⟨some 89, _, _, _, _, _⟩) (v := ?vn23) rfl (by as_aux_lemma => kernel_rfl) (by as_aux_lemma => kernel_rfl) (by as_aux_lemma => kernel_rfl) (fun _ _ _ h => h) (Or.inl ⟨by as_aux_lemma => rfl, ?hyn23⟩) SD.out ?restn23
            case hyn23 => (intro w hSw; go_simp; try (with_reducible rfl))
            simp only [Act.put, List.setIfInBounds_toArray, List.set_cons_zero, List.set_cons_succ]
            refine wpAnyH_take (i := 24) (oi := ⟨some 90, _, _, _, _, _⟩) (v := ?vn24) rfl (by as_aux_lemma => kernel_rfl) (by as_aux_lemma => kernel_rfl) (by as_aux_lemma => kernel_rfl) (fun _ _ _ h => h) (Or.inl ⟨by as_aux_lemma => rfl, ?hyn24⟩) SD.out ?restn24
            case hyn24 => (intro w hSw; go_simp; try (with_reducible rfl))
            simp only [Act.put, List.setIfInBounds_toArray, List.set_cons_zero, List.set_cons_succ]
            refine wpAnyH_take (i := 25) (oi := ⟨some 91, _, _, _, _, _⟩) (v := ?vn25) rfl (by as_aux_lemma => kernel_rfl) (by as_aux_lemma => kernel_rfl) (by as_aux_lemma => kernel_rfl) (fun _ _ _ h => h) (Or.inl ⟨by as_aux_lemma => rfl, ?hyn25⟩) SD.out ?restn25
            case hyn25 => (intro w hSw; go_simp; try (with_reducible rfl))
            simp only [Act.put, List.setIfInBounds_toArray, List.set_cons_zero, List.set_cons_succ]
            refine wpAnyH_take (i := 26) (oi := ⟨some 92, _, _, _, _, _⟩) (v := ?vn26) rfl (by as_aux_lemma => kernel_rfl) (by as_aux_lemma => kernel_rfl) (by as_aux_lemma => kernel_rfl) (fun _ _ _ h => h) (Or.inl ⟨by as_aux_lemma => rfl, ?hyn26⟩) SD.out ?restn26
            case hyn26 => (intro w hSw; go_simp; try (with_reducible rfl))
            simp only [Act.put, List.setIfInBounds_toArray, List.set_cons_zero, List.set_cons_succ]
            refine wpAnyH_take (i := 27) (oi := ⟨some 93, _, _, _, _, _⟩) (v := ?vn27) rfl (by as_aux_lemma => kernel_rfl) (by as_aux_lemma => kernel_rfl) (by as_aux_lemma => kernel_rfl) (fun _ _ _ h => h) (Or.inl ⟨by as_aux_lemma => rfl, ?hyn27⟩) SD.out ?restn27
            case hyn27 => (intro w hSw; go_simp; try (with_reducible rfl))
            simp only [Act.put, List.setIfInBounds_toArray, List.set_cons_zero, List.set_cons_succ]
            refine wpAnyH_take (i := 28) (oi := ⟨some 94, _, _, _, _, _⟩) (v := ?vn28) rfl (by as_aux_lemma => kernel_rfl) (by as_aux_lemma => kernel_rfl) (by as_aux_lemma => kernel_rfl) (fun _ _ _ h => h) (Or.inl ⟨by as_aux_lemma => rfl, ?hyn28⟩) SD.out ?restn28
            case hyn28 => (intro w hSw; go_simp; try (with_reducible rfl))
            simp only [Act.put, List.setIfInBounds_toArray, List.set_cons_zero, List.set_cons_succ]
            refine wpAnyH_take (i := 29) (oi := ⟨some 95, _, _, _, _, _⟩) (v := ?vn29) rfl (by as_aux_lemma => kernel_rfl) (by as_aux_lemma => kernel_rfl) (by as_aux_lemma => kernel_rfl) (fun _ _ _ h => h) (Or.inl ⟨by as_aux_lemma => rfl, ?hyn29⟩) SD.out ?restn29
            case hyn29 => (intro w hSw; go_simp; try (with_reducible rfl))
            simp only [Act.put, List.setIfInBounds_toArray, List.set_cons_zero, List.set_cons_succ]
            refine wpAnyH_take (i := 30) (oi := ⟨some 96, _, _, _, _, _⟩) (v := ?vn30) rfl (by as_aux_lemma => kernel_rfl) (by as_aux_lemma => kernel_rfl) (by as_aux_lemma => kernel_rfl) (fun _ _ _ h => h) (Or.inl ⟨by as_aux_lemma => rfl, ?hyn30⟩) SD.out ?restn30
            case hyn30 => (intro w hSw; go_simp; try (with_reducible rfl))
            simp only [Act.put, List.setIfInBounds_toArray, List.set_cons_zero, List.set_cons_succ]
            refine wpAnyH_take (i := 31) (oi := ⟨some 97, _, _, _, _, _⟩) (v := ?vn31) rfl (by as_aux_lemma => kernel_rfl) (by as_aux_lemma => kernel_rfl) (by as_aux_lemma => kernel_rfl) (fun _ _ _ h => h) (Or.inl ⟨by as_aux_lemma => rfl, ?hyn31⟩) SD.out ?restn31
            case hyn31 => (intro w hSw; go_simp; try (with_reducible rfl))
            simp only [Act.put, List.setIfInBounds_toArray, List.set_cons_zero, List.set_cons_succ]
            refine wpAnyH_take (i := 32) (oi := ⟨some 98, _, _, _, _, _⟩) (v := ?vn32) rfl (by as_aux_lemma => kernel_rfl) (by as_aux_lemma => kernel_rfl) (by as_aux_lemma => kernel_rfl) (fun _ _ _ h => h) (Or.inl ⟨by as_aux_lemma => rfl, ?hyn32⟩) SD.out ?restn32
            case hyn32 => (intro w hSw; go_simp; try (with_reducible rfl))
            simp only [Act.put, List.setIfInBounds_toArray, List.set_cons_zero, List.set_cons_succ]
            refine wpAnyH_take (i := 33) (oi := ⟨some 99, _, _, _, _, _⟩) (v := ?vn33) rfl (by as_aux_lemma => kernel_rfl) (by as_aux_lemma => kernel_rfl) (by as_aux_lemma => kernel_rfl) (fun _ _ _ h => h) (Or.inl ⟨by as_aux_lemma => rfl, ?hyn33⟩) SD.out ?restn33
            case hyn33 => (intro w hSw; go_simp; try (with_reducible rfl))
            simp only [Act.put, List.setIfInBounds_toArray, List.set_cons_zero, List.set_cons_succ]
            refine wpAnyH_take (i := 34) (oi := ⟨some 100, _, _, _, _, _⟩) (v := ?vn34) rfl (by as_aux_lemma => kernel_rfl) (by as_aux_lemma => kernel_rfl) (by as_aux_lemma => kernel_rfl) (fun _ _ _ h => h) (Or.inl ⟨by as_aux_lemma => rfl, ?hyn34⟩) SD.out ?restn34
            case hyn34 => (intro w hSw; go_simp; try (with_reducible rfl))
            simp only [Act.put, List.setIfInBounds_toArray, List.set_cons_zero, List.set_cons_succ]
            refine wpAnyH_take (i := 35) (oi := ⟨some 101, _, _, _, _, _⟩) (v := ?vn35) rfl (by as_aux_lemma => kernel_rfl) (by as_aux_lemma => kernel_rfl) (by as_aux_lemma => kernel_rfl) (fun _ _ _ h => h) (Or.inl ⟨by as_aux_lemma => rfl, ?hyn35⟩) SD.out ?restn35
            case hyn35 => (intro w hSw; go_simp; try (with_reducible rfl))
            simp only [Act.put, List.setIfInBounds_toArray, List.set_cons_zero, List.set_cons_succ]
            refine wpAnyH_take (i := 36) (oi := ⟨some 102, _, _, _, _, _⟩) (v := ?vn36) rfl (by as_aux_lemma => kernel_rfl) (by as_aux_lemma => kernel_rfl) (by as_aux_lemma => kernel_rfl) (fun _ _ _ h => h) (Or.inl ⟨by as_aux_lemma => rfl, ?hyn36⟩) SD.out ?restn36
            case hyn36 => (intro w hSw; go_simp; try (with_reducible rfl))
            simp only [Act.put, List.setIfInBounds_toArray, List.set_cons_zero, List.set_cons_succ]
            refine wpAnyH_take (i := 37) (oi := ⟨some 103, _, _, _, _, _⟩) (v := ?vn37) rfl (by as_aux_lemma => kernel_rfl) (by as_aux_lemma => kernel_rfl) (by as_aux_lemma => kernel_rfl) (fun _ _ _ h => h) (Or.inl ⟨by as_aux_lemma => rfl, ?hyn37⟩) SD.out ?restn37
            case hyn37 => (intro w hSw; go_simp; try (with_reducible rfl))
            simp only [Act.put, List.setIfInBounds_toArray, List.set_cons_zero, List.set_cons_succ]
            refine wpAnyH_take (i := 38) (oi := ⟨some 104, _, _, _, _, _⟩) (v := ?vn38) rfl (by as_aux_lemma => kernel_rfl) (by as_aux_lemma => kernel_rfl) (by as_aux_lemma => kernel_rfl) (fun _ _ _ h => h) (Or.inl ⟨by as_aux_lemma => rfl, ?hyn38⟩) SD.out ?restn38
            case hyn38 => (intro w hSw; go_simp; try (with_reducible rfl))
            simp only [Act.put, List.setIfInBounds_toArray, List.set_cons_zero, List.set_cons_succ]
            refine wpAnyH_take (i := 39) (oi := ⟨some 105, _, _, _, _, _⟩) (v := ?vn39) rfl (by as_aux_lemma => kernel_rfl) (by as_aux_lemma => kernel_rfl) (by as_aux_lemma => kernel_rfl) (fun _ _ _ h => h) (Or.inl ⟨by as_aux_lemma => rfl, ?hyn39⟩) SD.out ?restn39
            case hyn39 => (intro w hSw; go_simp; try (with_reducible rfl))
            simp only [Act.put, List.setIfInBounds_toArray, List.set_cons_zero, List.set_cons_succ]
            refine wpAnyH_take (i := 40) (oi := ⟨some 106, _, _, _, _, _⟩) (v := ?vn40) rfl (by as_aux_lemma => kernel_rfl) (by as_aux_lemma => kernel_rfl) (by as_aux_lemma => kernel_rfl) (fun _ _ _ h => h) (Or.inl ⟨by as_aux_lemma => rfl, ?hyn40⟩) SD.out ?restn40
            case hyn40 => (intro w hSw; go_simp; try (with_reducible rfl))
            simp only [Act.put, List.setIfInBounds_toArray, List.set_cons_zero, List.set_cons_succ]
            refine wpAnyH_take (i := 41) (oi := ⟨some 107, _, _, _, _, _⟩) (v := ?vn41) rfl (by as_aux_lemma => kernel_rfl) (by as_aux_lemma => kernel_rfl) (by as_aux_lemma => kernel_rfl) (fun _ _ _ h => h) (Or.inl ⟨by as_aux_lemma => rfl, ?hyn41⟩) SD.out ?restn41
            case hyn41 => (intro w hSw; go_simp; try (with_reducible rfl))
            simp only [Act.put, List.setIfInBounds_toArray, List.set_cons_zero, List.set_cons_succ]
            refine wpAnyH_take (i := 42) (oi := ⟨some 108, _, _, _, _, _⟩) (v := ?vn42) rfl (by as_aux_lemma => kernel_rfl) (by as_aux_lemma => kernel_rfl) (by as_aux_lemma => kernel_rfl) (fun _ _ _ h => h) (Or.inl ⟨by as_aux_lemma => rfl, ?hyn42⟩) SD.out ?restn42
            case hyn42 => (intro w hSw; go_simp; try (with_reducible rfl))
            simp only [Act.put, List.setIfInBounds_toArray, List.set_cons_zero, List.set_cons_succ]
            refine wpAnyH_take (i := 43) (oi := ⟨some 109, _, _, _, _, _⟩) (v := ?vn43) rfl (by as_aux_lemma => kernel_rfl) (by as_aux_lemma => kernel_rfl) (by as_aux_lemma => kernel_rfl) (fun _ _ _ h => h) (Or.inl ⟨by as_aux_lemma => rfl, ?hyn43⟩) SD.out ?restn43
            case hyn43 => (intro w hSw; go_simp; try (with_reducible rfl))
            simp only [Act.put, List.setIfInBounds_toArray, List.set_cons_zero, List.set_cons_succ]
            refine wpAnyH_take (i := 44) (oi := ⟨some 110, _, _, _, _, _⟩) (v := ?vn44) rfl (by as_aux_lemma => kernel_rfl) (by as_aux_lemma => kernel_rfl) (by as_aux_lemma => kernel_rfl) (fun _ _ _ h => h) (Or.inl ⟨by as_aux_lemma => rfl, ?hyn44⟩) SD.out ?restn44
            case hyn44 => (intro w hSw; go_simp; try (with_reducible rfl))
            simp only [Act.put, List.setIfInBounds_toArray, List.set_cons_zero, List.set_cons_succ]
            refine wpAnyH_take (i := 46) (oi := ⟨some 112, _, _, _, _, _⟩) (v := ?vn46) rfl (by as_aux_lemma => kernel_rfl) (by as_aux_lemma => kernel_rfl) (by as_aux_lemma => kernel_rfl) (fun _ _ _ h => h) (Or.inl ⟨by as_aux_lemma => rfl, ?hyn46⟩) SD.out ?restn46
            case hyn46 => (intro w hSw; go_simp; try (with_reducible rfl))
            simp only [Act.put, List.setIfInBounds_toArray, List.set_cons_zero, List.set_cons_succ]
            refine wpAnyH_take (i := 47) (oi := ⟨some 113, _, _, _, _, _⟩) (v := ?vn47) rfl (by as_aux_lemma => kernel_rfl) (by as_aux_lemma => kernel_rfl) (by as_aux_lemma => kernel_rfl) (fun _ _ _ h => h) (Or.inl ⟨by as_aux_lemma => rfl, ?hyn47⟩) SD.out ?restn47
            case hyn47 => (intro w hSw; go_simp; try (with_reducible rfl))
            simp only [Act.put, List.setIfInBounds_toArray, List.set_cons_zero, List.set_cons_succ]
            refine wpAnyH_take (i := 49) (oi := ⟨some 115, _, _, _, _, _⟩) (v := ?vn49) rfl (by as_aux_lemma => kernel_rfl) (by as_aux_lemma => kernel_rfl) (by as_aux_lemma => kernel_rfl) (fun _ _ _ h => h) (Or.inl ⟨by as_aux_lemma => rfl, ?hyn49⟩) SD.out ?restn49
            case hyn49 => (intro w hSw; go_simp; try (with_reducible rfl))
            simp only [Act.put, List.setIfInBounds_toArray, List.set_cons_zero, List.set_cons_succ]
            refine wpAnyH_take (i := 50) (oi := ⟨some 116, _, _, _, _, _⟩) (v := ?vn50) rfl (by as_aux_lemma => kernel_rfl) (by as_aux_lemma => kernel_rfl) (by as_aux_lemma => kernel_rfl) (fun _ _ _ h => h) (Or.inl ⟨by as_aux_lemma => rfl, ?hyn50⟩) SD.out ?restn50
            case hyn50 => (intro w hSw; go_simp; try (with_reducible rfl))
            simp only [Act.put, List.setIfInBounds_toArray, List.set_cons_zero, List.set_cons_succ]
            refine wpAnyH_take (i := 52) (oi := ⟨some 118, _, _, _, _, _⟩) (v := ?vn52) rfl (by as_aux_lemma => kernel_rfl) (by as_aux_lemma => kernel_rfl) (by as_aux_lemma => kernel_rfl) (fun _ _ _ h => h) (Or.inl ⟨by as_aux_lemma => rfl, ?hyn52⟩) SD.out ?restn52
            case hyn52 => (intro w hSw; go_simp; try (with_reducible rfl))
            simp only [Act.put, List.setIfInBounds_toArray, List.set_cons_zero, List.set_cons_succ]
            refine wpAnyH_take (i := 53) (oi := ⟨some 119, _, _, _, _, _⟩) (v := ?vn53) rfl (by as_aux_lemma => kernel_rfl) (by as_aux_lemma => kernel_rfl) (by as_aux_lemma => kernel_rfl) (fun _ _ _ h => h) (Or.inl ⟨by as_aux_lemma => rfl, ?hyn53⟩) SD.out ?restn53
            case hyn53 => (intro w hSw; go_simp; try (with_reducible rfl))
            simp only [Act.put, List.setIfInBounds_toArray, List.set_cons_zero, List.set_cons_succ]
            have FX0 := Lib.hid FXq.out.bounds
            have EE0 := Lib.hid EEq.out.bounds
            have B0q := Lib.hid BB.out
            have hb := alloc_below0 q0 (.cells #[] 44)
            have O0 := Lib.hid (show OwnS lEnt q0.heap.size (q0.alloc (.cells #[] 44)) (.slice (some ⟨q0.heap.size, 0, none⟩) 0 0) [] from OwnS.lit lEnt q0.heap.size q0 q0.heap.size rfl [] (Nat.le_refl _) (by decide))
            have B1q := Lib.hid (BB.out.trans (hb.mono BB.out.size))
            have FAq := Lib.hid (FAq.out.below hb)
            have FXq := Lib.hid (FXq.out.below hb)
            have EEq := Lib.hid (EEq.out.below hb)
            have BQ := Lib.hid hb
            have SN := HS9.out _ B1q.out
            refine anyH_one (i := 45) (o := ⟨some 111, _, _, _, _, _⟩) (by as_aux_lemma => kernel_rfl) rfl (fun K hK => ?_)
            rw [if_pos (by as_aux_lemma => rfl)]
            go_simp
            refine hK.out _ _ SN ?_
            clear hK K SN hb
            have B1s := Lib.hid (show q0.heap.size ≤ (q0.alloc (.cells #[] 44)).heap.size from BQ.out.size)
            generalize hG : World.alloc q0 _ = q1 at *
            clear hG
            try simp only [Act.put, List.setIfInBounds_toArray, List.set_cons_zero, List.set_cons_succ]
            refine anyH_one (i := 48) (o := ⟨some 114, _, _, _, _, _⟩) (by as_aux_lemma => kernel_rfl) rfl (fun K hK => ?_)
            rw [if_pos (by as_aux_lemma => rfl)]
            refine wp_appS lEnt 25 Try.underlying25 lEnt_known (by decide) (by decide) (.tmp 111) (.tmp 113) rfl q0.heap.size rfl rfl O0.out FAq.out.sv (by have := L23.out; simp; omega) BQ.out.size ?_
            intro vq2 q2 ho hg
            have BQ := Lib.hid (BQ.out.grown hg BQ.out.size (fun k hk => (World.ownsRow.lt O0.out k hk).1))
            have hb := BQ.out
            have BF := Lib.hid (show Below q0.heap.size q1 q2 from (Kept.of_grown hg).below (fun k h => (O0.out.bounds k h.symm).1) (by have := B1s.out; omega))
            have O1 := Lib.hid ho
            rw [List.nil_append] at O1
            have FXq := Lib.hid (FXq.out.kept (Kept.of_grown hg) (fun x m d hv hs => by have h1 := (O0.out.bounds x.block hs.symm).1; have h2 := (FX0.out x.block (by rw [hv]; rfl)).2; omega))
            have EEq := Lib.hid (EEq.out.kept (Kept.of_grown hg) (fun x m d hv hs => by have h1 := (O0.out.bounds x.block hs.symm).1; have h2 := (EE0.out x.block (by rw [hv]; rfl)).2; omega))
            have B2q := Lib.hid (B0q.out.trans (BQ.out.mono B0q.out.size))
            have SN := HS9.out _ B2q.out
            clear ho hg hb BF O0
            refine hK.out _ _ SN ?_
            clear hK K SN
            try simp only [Act.put, List.setIfInBounds_toArray, List.set_cons_zero, List.set_cons_succ]
            refine anyH_one (i := 51) (o := ⟨some 117, _, _, _, _, _⟩) (by as_aux_lemma => kernel_rfl) rfl (fun K hK => ?_)
            rw [if_pos (by as_aux_lemma => rfl)]
            refine wp_appS lEnt 25 Try.underlying25 lEnt_known (by decide) (by decide) (.tmp 114) (.tmp 116) rfl q0.heap.size rfl rfl O1.out FXq.out.sv (by have := L23.out; omega) BQ.out.size ?_
            intro vq3 q3 ho hg
            have BQ := Lib.hid (BQ.out.grown hg BQ.out.size (fun k hk => (World.ownsRow.lt O1.out k hk).1))
            have O2 := Lib.hid (show OwnS lEnt q0.heap.size q3 vq3 v.ents from by rw [← PE.out]; exact ho)
            have EEq := Lib.hid (EEq.out.kept (Kept.of_grown hg) (fun x m d hv hs => by have h1 := (O1.out.bounds x.block hs.symm).1; have h2 := (EE0.out x.block (by rw [hv]; rfl)).2; omega))
            have B3q := Lib.hid (B0q.out.trans (BQ.out.mono B0q.out.size))
            have SN := HS9.out _ B3q.out
            clear ho hg O1
            refine hK.out _ _ SN ?_
            clear hK K SN
            try simp only [Act.put, List.setIfInBounds_toArray, List.set_cons_zero, List.set_cons_succ]
            refine anyH_one (i := 54) (o := ⟨some 120, _, _, _, _, _⟩) (by as_aux_lemma => kernel_rfl) rfl (fun K hK => ?_)
            rw [if_pos (by as_aux_lemma => rfl)]
            go_simp
            refine (sameEnts_any _ _ v.ents q3 O2.out.sv EEq.out.sv).mono ?_
            rintro ev q4 ⟨rfl, hs⟩
            have B4q := Lib.hid (B3q.out.trans (hs.mono B3q.out.size))
            have SN := HS9.out _ B4q.out
            clear hs
            refine hK.out _ _ SN ?_
            clear hK K
            try simp only [Act.put, List.setIfInBounds_toArray, List.set_cons_zero, List.set_cons_succ]
            refine anyH_one (i := 55) (o := ⟨some 121, _, _, _, _, _⟩) (by as_aux_lemma => kernel_rfl) rfl (fun K hK => ?_)
            rw [if_pos (by as_aux_lemma => rfl)]
            go_simp
            refine hK.out _ _ SN ?_
            clear hK K
            try simp only [Act.put, List.setIfInBounds_toArray, List.set_cons_zero, List.set_cons_succ]
            refine anyH_one (i := 56) (o := ⟨some 122, _, _, _, _, _⟩) (by as_aux_lemma => kernel_rfl) rfl (fun K hK => ?_)
            rw [if_pos (by as_aux_lemma => rfl)]
            go_simp
            refine hK.out _ _ SN ?_
            clear hK K SN
            try simp only [Act.put, List.setIfInBounds_toArray, List.set_cons_zero, List.set_cons_succ]
            refine wpAnyH_done (by as_aux_lemma => kernel_rfl) ?_ _
            have hs := B4q.out
            have B11 := Lib.hid (B10.out.trans (hs.mono B10.out.size))
            have E8 := Lib.hid (E7.out.below hs)
            have V7 := Lib.hid (V6.out.below hs)
            have H7 := Lib.hid (H6.out.below hs)
            have UW4 := Lib.hid (UW3.out.below hs)
            have FA4 := Lib.hid (FA3.out.below hs)
            have FX2 := Lib.hid (FX1.out.below hs)
            have UX1 := Lib.hid (UX0.out.below hs)
            clear B10 E7 V6 H6 UW3 FA3 FX1 UX0
            clear hs HS9 BB FAq FXq EEq SD B0q B1q B2q B3q B4q BQ O2 FX0 EE0 B1s k1 k2
            obtain ⟨o1, ho1⟩ : ∃ o, childI v key = o := ⟨_, rfl⟩
            have O1 := Lib.hid ho1
            cases o1 with
            | none =>
              have KN := Lib.hid ((PC.out key).1 ho1)
              clear ho1
              have uv_0 := V7.out.c0
              have uv_1 := V7.out.c1
              have uv_2 := V7.out.c2
              have uv_3 := V7.out.c3
              have uv_4 := V7.out.c4
              have uv_5 := V7.out.c5
              have uv_6 := V7.out.c6
              have uv_7 := V7.out.c7
              have uv_8 := V7.out.c8
              go_wp2_with fail
              refine (C.child _ v (.slice xa m xc) key _ E8.out HG.out.ris HL.out Z0.out HK.out).mono ?_
              rintro ev w11 ⟨rfl, hs⟩
              rw [show childC v key = 2 by unfold childC; rw [O1.out]; rfl, errV_code (show (2 : Int) ≠ 0 by decide), O1.out]
              simp only [Option.getD_none]
              clear uv_0 uv_1 uv_2 uv_3 uv_4 uv_5 uv_6 uv_7 uv_8
              have B12 := Lib.hid (B11.out.trans (hs.mono B11.out.size))
              have E9 := Lib.hid (E8.out.below hs)
              have V8 := Lib.hid (V7.out.below hs)
              have H8 := Lib.hid (H7.out.below hs)
              have UW5 := Lib.hid (UW4.out.below hs)
              have FA5 := Lib.hid (FA4.out.below hs)
              have FX3 := Lib.hid (FX2.out.below hs)
              have UX2 := Lib.hid (UX1.out.below hs)
              clear B11 E8 V7 H7 UW4 FA4 FX2 UX1
              clear hs
              unfold entVal
              have hs := alloc_below0 w11 (entObj e0)
              have B13 := Lib.hid (B12.out.trans (hs.mono B12.out.size))
              have E10 := Lib.hid (E9.out.below hs)
              have V9 := Lib.hid (V8.out.below hs)
              have H9 := Lib.hid (H8.out.below hs)
              have UW6 := Lib.hid (UW5.out.below hs)
              have FA6 := Lib.hid (FA5.out.below hs)
              have FX4 := Lib.hid (FX3.out.below hs)
              have UX3 := Lib.hid (UX2.out.below hs)
              clear B12 E9 V8 H8 UW5 FA5 FX3 UX2
              clear hs
              unfold entObj at B13 E10 V9 H9 UW6 FA6 FX4 UX3
              have uuw_0 := UW6.out.c0
              have uuw_1 := UW6.out.c1
              have uuw_2 := UW6.out.c2
              have uuw_3 := UW6.out.c3
              have uuw_4 := UW6.out.c4
              have uuw_5 := UW6.out.c5
              have uuw_6 := UW6.out.c6
              have uuw_7 := UW6.out.c7
              have uuw_8 := UW6.out.c8
              go_wp2_with fail
              refine (C.child _ dw (.slice zaA m2 zcA) key _ FA6.out GW.out.ris L23.out.1 YW0.out HK.out).mono ?_
              rintro ev w12 ⟨rfl, hs⟩
              rw [show childC dw key = 2 by unfold childC; rw [KN.out.1]; rfl, errV_code (show (2 : Int) ≠ 0 by decide), KN.out.1]
              simp only [Option.getD_none]
              clear uuw_0 uuw_1 uuw_2 uuw_3 uuw_4 uuw_5 uuw_6 uuw_7 uuw_8
              have B14 := Lib.hid (B13.out.trans (hs.mono B13.out.size))
              have E11 := Lib.hid (E10.out.below hs)
              have V10 := Lib.hid (V9.out.below hs)
              have H10 := Lib.hid (H9.out.below hs)
              have UW7 := Lib.hid (UW6.out.below hs)
              have FA7 := Lib.hid (FA6.out.below hs)
              have FX5 := Lib.hid (FX4.out.below hs)
              have UX4 := Lib.hid (UX3.out.below hs)
              clear B13 E10 V9 H9 UW6 FA6 FX4 UX3
              clear hs
              unfold entVal
              have hs := alloc_below0 w12 (entObj e0)
              have B15 := Lib.hid (B14.out.trans (hs.mono B14.out.size))
              have E12 := Lib.hid (E11.out.below hs)
              have V11 := Lib.hid (V10.out.below hs)
              have H11 := Lib.hid (H10.out.below hs)
              have UW8 := Lib.hid (UW7.out.below hs)
              have FA8 := Lib.hid (FA7.out.below hs)
              have FX6 := Lib.hid (FX5.out.below hs)
              have UX5 := Lib.hid (UX4.out.below hs)
              clear B14 E11 V10 H10 UW7 FA7 FX5 UX4
              clear hs
              unfold entObj at B15 E12 V11 H11 UW8 FA8 FX6 UX5
              have uux_0 := UX5.out.c0
              have uux_1 := UX5.out.c1
              have uux_2 := UX5.out.c2
              have uux_3 := UX5.out.c3
              have uux_4 := UX5.out.c4
              have uux_5 := UX5.out.c5
              have uux_6 := UX5.out.c6
              have uux_7 := UX5.out.c7
              have uux_8 := UX5.out.c8
              go_wp2_with fail
              refine (C.child _ xv (.slice zaB m3 zcB) key _ FX6.out GX.out.ris L23.out.2 YX0.out HK.out).mono ?_
              rintro ev w13 ⟨rfl, hs⟩
              rw [show childC xv key = 2 by unfold childC; rw [KN.out.2]; rfl, errV_code (show (2 : Int) ≠ 0 by decide), KN.out.2]
              simp only [Option.getD_none]
              clear uux_0 uux_1 uux_2 uux_3 uux_4 uux_5 uux_6 uux_7 uux_8
              have B16 := Lib.hid (B15.out.trans (hs.mono B15.out.size))
              have E13 := Lib.hid (E12.out.below hs)
              have V12 := Lib.hid (V11.out.below hs)
              have H12 := Lib.hid (H11.out.below hs)
              have UW9 := Lib.hid (UW8.out.below hs)
              have FA9 := Lib.hid (FA8.out.below hs)
              have FX7 := Lib.hid (FX6.out.below hs)
              have UX6 := Lib.hid (UX5.out.below hs)
              clear B15 E12 V11 H11 UW8 FA8 FX6 UX5
              clear hs
              unfold entVal
              have hs := alloc_below0 w13 (entObj e0)
              have B17 := Lib.hid (B16.out.trans (hs.mono B16.out.size))
              have E14 := Lib.hid (E13.out.below hs)
              have V13 := Lib.hid (V12.out.below hs)
              have H13 := Lib.hid (H12.out.below hs)
              have UW10 := Lib.hid (UW9.out.below hs)
              have FA10 := Lib.hid (FA9.out.below hs)
              have FX8 := Lib.hid (FX7.out.below hs)
              have UX7 := Lib.hid (UX6.out.below hs)
              clear B16 E13 V12 H12 UW9 FA9 FX7 UX6
              clear hs
              unfold entObj at B17 E14 V13 H13 UW10 FA10 FX8 UX7
              go_wp2_with fail
              refine (awakeI C _).mono ?_
              rintro ev w14 ⟨rfl, hs⟩
              have B18 := Lib.hid (B17.out.trans (hs.mono B17.out.size))
              have E15 := Lib.hid (E14.out.below hs)
              have V14 := Lib.hid (V13.out.below hs)
              have H14 := Lib.hid (H13.out.below hs)
              have UW11 := Lib.hid (UW10.out.below hs)
              have FA11 := Lib.hid (FA10.out.below hs)
              have FX9 := Lib.hid (FX8.out.below hs)
              have UX8 := Lib.hid (UX7.out.below hs)
              clear B17 E14 V13 H13 UW10 FA10 FX8 UX7
              clear hs
              go_wp2
              go_ret
              exact ⟨rfl, B18.out⟩
            | some c =>
              have KC := (PC.out key).2 c ho1
              clear ho1
              rcases KC with ⟨kc1, kc2⟩ | ⟨kc1, kc2⟩
              · have K1 := Lib.hid kc1
                have K2 := Lib.hid kc2
                clear kc1 kc2
                have uv_0 := V7.out.c0
                have uv_1 := V7.out.c1
                have uv_2 := V7.out.c2
                have uv_3 := V7.out.c3
                have uv_4 := V7.out.c4
                have uv_5 := V7.out.c5
                have uv_6 := V7.out.c6
                have uv_7 := V7.out.c7
                have uv_8 := V7.out.c8
                go_wp2_with fail
                refine (C.child _ v (.slice xa m xc) key _ E8.out HG.out.ris HL.out Z0.out HK.out).mono ?_
                rintro ev w11 ⟨rfl, hs⟩
                rw [show childC v key = 0 by unfold childC; rw [O1.out]; rfl, errV_zero rfl, O1.out]
                simp only [Option.getD_some]
                clear uv_0 uv_1 uv_2 uv_3 uv_4 uv_5 uv_6 uv_7 uv_8
                have B12 := Lib.hid (B11.out.trans (hs.mono B11.out.size))
                have E9 := Lib.hid (E8.out.below hs)
                have V8 := Lib.hid (V7.out.below hs)
                have H8 := Lib.hid (H7.out.below hs)
                have UW5 := Lib.hid (UW4.out.below hs)
                have FA5 := Lib.hid (FA4.out.below hs)
                have FX3 := Lib.hid (FX2.out.below hs)
                have UX2 := Lib.hid (UX1.out.below hs)
                clear B11 E8 V7 H7 UW4 FA4 FX2 UX1
                clear hs
                unfold entVal
                have hs := alloc_below0 w11 (entObj c)
                have B13 := Lib.hid (B12.out.trans (hs.mono B12.out.size))
                have E10 := Lib.hid (E9.out.below hs)
                have V9 := Lib.hid (V8.out.below hs)
                have H9 := Lib.hid (H8.out.below hs)
                have UW6 := Lib.hid (UW5.out.below hs)
                have FA6 := Lib.hid (FA5.out.below hs)
                have FX4 := Lib.hid (FX3.out.below hs)
                have UX3 := Lib.hid (UX2.out.below hs)
                clear B12 E9 V8 H8 UW5 FA5 FX3 UX2
                have X10 := Lib.hid (EB.new c w11)
                clear hs
                unfold entObj at B13 E10 V9 H9 UW6 FA6 FX4 UX3 X10
                have uuw_0 := UW6.out.c0
                have uuw_1 := UW6.out.c1
                have uuw_2 := UW6.out.c2
                have uuw_3 := UW6.out.c3
                have uuw_4 := UW6.out.c4
                have uuw_5 := UW6.out.c5
                have uuw_6 := UW6.out.c6
                have uuw_7 := UW6.out.c7
                have uuw_8 := UW6.out.c8
                go_wp2_with fail
                refine (C.child _ dw (.slice zaA m2 zcA) key _ FA6.out GW.out.ris L23.out.1 YW0.out HK.out).mono ?_
                rintro ev w12 ⟨rfl, hs⟩
                rw [show childC dw key = 0 by unfold childC; rw [K1.out]; rfl, errV_zero rfl, K1.out]
                simp only [Option.getD_some]
                clear uuw_0 uuw_1 uuw_2 uuw_3 uuw_4 uuw_5 uuw_6 uuw_7 uuw_8
                have B14 := Lib.hid (B13.out.trans (hs.mono B13.out.size))
                have E11 := Lib.hid (E10.out.below hs)
                have V10 := Lib.hid (V9.out.below hs)
                have H10 := Lib.hid (H9.out.below hs)
                have UW7 := Lib.hid (UW6.out.below hs)
                have FA7 := Lib.hid (FA6.out.below hs)
                have FX5 := Lib.hid (FX4.out.below hs)
                have UX4 := Lib.hid (UX3.out.below hs)
                have X11 := Lib.hid (X10.out.below hs)
                clear B13 E10 V9 H9 UW6 FA6 FX4 UX3 X10
                clear hs
                unfold entVal
                have hs := alloc_below0 w12 (entObj c)
                have B15 := Lib.hid (B14.out.trans (hs.mono B14.out.size))
                have E12 := Lib.hid (E11.out.below hs)
                have V11 := Lib.hid (V10.out.below hs)
                have H11 := Lib.hid (H10.out.below hs)
                have UW8 := Lib.hid (UW7.out.below hs)
                have FA8 := Lib.hid (FA7.out.below hs)
                have FX6 := Lib.hid (FX5.out.below hs)
                have UX5 := Lib.hid (UX4.out.below hs)
                have X12 := Lib.hid (X11.out.below hs)
                clear B14 E11 V10 H10 UW7 FA7 FX5 UX4 X11
                have X20 := Lib.hid (EB.new c w12)
                clear hs
                unfold entObj at B15 E12 V11 H11 UW8 FA8 FX6 UX5 X12 X20
                have uux_0 := UX5.out.c0
                have uux_1 := UX5.out.c1
                have uux_2 := UX5.out.c2
                have uux_3 := UX5.out.c3
                have uux_4 := UX5.out.c4
                have uux_5 := UX5.out.c5
                have uux_6 := UX5.out.c6
                have uux_7 := UX5.out.c7
                have uux_8 := UX5.out.c8
                go_wp2_with fail
                refine (C.child _ xv (.slice zaB m3 zcB) key _ FX6.out GX.out.ris L23.out.2 YX0.out HK.out).mono ?_
                rintro ev w13 ⟨rfl, hs⟩
                rw [show childC xv key = 2 by unfold childC; rw [K2.out]; rfl, errV_code (show (2 : Int) ≠ 0 by decide), K2.out]
                simp only [Option.getD_none]
                clear uux_0 uux_1 uux_2 uux_3 uux_4 uux_5 uux_6 uux_7 uux_8
                have B16 := Lib.hid (B15.out.trans (hs.mono B15.out.size))
                have E13 := Lib.hid (E12.out.below hs)
                have V12 := Lib.hid (V11.out.below hs)
                have H12 := Lib.hid (H11.out.below hs)
                have UW9 := Lib.hid (UW8.out.below hs)
                have FA9 := Lib.hid (FA8.out.below hs)
                have FX7 := Lib.hid (FX6.out.below hs)
                have UX6 := Lib.hid (UX5.out.below hs)
                have X13 := Lib.hid (X12.out.below hs)
                have X21 := Lib.hid (X20.out.below hs)
                clear B15 E12 V11 H11 UW8 FA8 FX6 UX5 X12 X20
                clear hs
                unfold entVal
                have hs := alloc_below0 w13 (entObj e0)
                have B17 := Lib.hid (B16.out.trans (hs.mono B16.out.size))
                have E14 := Lib.hid (E13.out.below hs)
                have V13 := Lib.hid (V12.out.below hs)
                have H13 := Lib.hid (H12.out.below hs)
                have UW10 := Lib.hid (UW9.out.below hs)
                have FA10 := Lib.hid (FA9.out.below hs)
                have FX8 := Lib.hid (FX7.out.below hs)
                have UX7 := Lib.hid (UX6.out.below hs)
                have X14 := Lib.hid (X13.out.below hs)
                have X22 := Lib.hid (X21.out.below hs)
                clear B16 E13 V12 H12 UW9 FA9 FX7 UX6 X13 X21
                clear hs
                unfold entObj at B17 E14 V13 H13 UW10 FA10 FX8 UX7 X14 X22
                go_wp2_with fail
                generalize hw14 : World.alloc w13 _ = w14 at *
                clear hw14
                have HS9 := Lib.hid (show ∀ w', Below w14.heap.size w14 w' → (fun w' => w'.cell? ⟨w12.heap.size, 0, none⟩ = some (.string c.1) ∧ w'.cell? ⟨w12.heap.size, 1, none⟩ = some (.int .i64 c.2) ∧ w'.cell? ⟨w11.heap.size, 0, none⟩ = some (.string c.1) ∧ w'.cell? ⟨w11.heap.size, 1, none⟩ = some (.int .i64 c.2)) w' from fun w' hs => ⟨(X22.out.below hs).c0, (X22.out.below hs).c1, (X14.out.below hs).c0, (X14.out.below hs).c1⟩)
                have BB := Lib.hid (Below.refl w14.heap.size w14).drew
                have k1 : (c.1.toList == c.1.toList) = true := by simp
                have k2 : (c.2 == c.2) = true := by simp
                refine anyH_region (fun w' => w'.cell? ⟨w12.heap.size, 0, none⟩ = some (.string c.1) ∧ w'.cell? ⟨w12.heap.size, 1, none⟩ = some (.int .i64 c.2) ∧ w'.cell? ⟨w11.heap.size, 0, none⟩ = some (.string c.1) ∧ w'.cell? ⟨w11.heap.size, 1, none⟩ = some (.int .i64 c.2)) (by as_aux_lemma => kernel_rfl) ?_
                have SD := Lib.hid (HS9.out w14.drew BB.out)
                refine wpAnyH_take (i := 0) (oi := ⟨some 152, _, _, _, _, _⟩) (v := ?vl0) rfl (by as_aux_lemma => kernel_rfl) (by as_aux_lemma => kernel_rfl) (by as_aux_lemma => kernel_rfl) (fun _ _ _ h => h) (Or.inl ⟨by as_aux_lemma => rfl, ?hyl0⟩) SD.out ?restl0
                case hyl0 => (intro w hSw; go_simp; try (with_reducible rfl))
                simp only [Act.put, List.setIfInBounds_toArray, List.set_cons_zero, List.set_cons_succ]
                refine wpAnyH_take (i := 1) (oi := ⟨some 153, _, _, _, _, _⟩) (v := ?vl1) rfl (by as_aux_lemma => kernel_rfl) (by as_aux_lemma => kernel_rfl) (by as_aux_lemma => kernel_rfl) (fun _ _ _ h => h) (Or.inl ⟨by as_aux_lemma => rfl, ?hyl1⟩) SD.out ?restl1
                case hyl1 => (intro w hSw; go_simp; try (with_reducible rfl))
                simp only [Act.put, List.setIfInBounds_toArray, List.set_cons_zero, List.set_cons_succ]
                refine wpAnyH_take (i := 2) (oi := ⟨some 154, _, _, _, _, _⟩) (v := ?vl2) rfl (by as_aux_lemma => kernel_rfl) (by as_aux_lemma => kernel_rfl) (by as_aux_lemma => kernel_rfl) (fun _ _ _ h => h) (Or.inl ⟨by as_aux_lemma => rfl, ?hyl2⟩) SD.out ?restl2
                case hyl2 => (intro w hSw; go_simp; try (with_reducible rfl))
                simp only [Act.put, List.setIfInBounds_toArray, List.set_cons_zero, List.set_cons_succ]
                refine wpAnyH_take (i := 3) (oi := ⟨some 155, _, _, _, _, _⟩) (v := ?vl3) rfl (by as_aux_lemma => kernel_rfl) (by as_aux_lemma => kernel_rfl) (by as_aux_lemma => kernel_rfl) (fun _ _ _ h => h) (Or.inl ⟨by as_aux_lemma => rfl, ?hyl3⟩) SD.out ?restl3
                case hyl3 => (intro w hSw; go_simp; try (with_reducible rfl))
                simp only [Act.put, List.setIfInBounds_toArray, List.set_cons_zero, List.set_cons_succ]
                refine wpAnyH_take (i := 4) (oi := ⟨some 156, _, _, _, _, _⟩) (v := ?vl4) rfl (by as_aux_lemma => kernel_rfl) (by as_aux_lemma => kernel_rfl) (by as_aux_lemma => kernel_rfl) (fun _ _ _ h => h) (Or.inl ⟨by as_aux_lemma => rfl, ?hyl4⟩) SD.out ?restl4
                case hyl4 => (intro w hSw; go_simp; try (with_reducible rfl))
                simp only [Act.put, List.setIfInBounds_toArray, List.set_cons_zero, List.set_cons_succ]
                refine wpAnyH_take (i := 5) (oi := ⟨some 157, _, _, _, _, _⟩) (v := ?vl5) rfl (by as_aux_lemma => kernel_rfl) (by as_aux_lemma => kernel_rfl) (by as_aux_lemma => kernel_rfl) (fun _ _ _ h => h) (Or.inl ⟨by as_aux_lemma => rfl, ?hyl5⟩) SD.out ?restl5
                case hyl5 => (intro w hSw; go_simp; try (with_reducible rfl))
                simp only [Act.put, List.setIfInBounds_toArray, List.set_cons_zero, List.set_cons_succ]
                refine wpAnyH_take (i := 6) (oi := ⟨some 158, _, _, _, _, _⟩) (v := ?vl6) rfl (by as_aux_lemma => kernel_rfl) (by as_aux_lemma => kernel_rfl) (by as_aux_lemma => kernel_rfl) (fun _ _ _ h => h) (Or.inl ⟨by as_aux_lemma => rfl, ?hyl6⟩) SD.out ?restl6
                case hyl6 => (intro w hSw; go_simp; try (with_reducible rfl))
                simp only [Act.put, List.setIfInBounds_toArray, List.set_cons_zero, List.set_cons_succ]
                refine wpAnyH_take (i := 7) (oi := ⟨some 159, _, _, _, _, _⟩) (v := ?vl7) rfl (by as_aux_lemma => kernel_rfl) (by as_aux_lemma => kernel_rfl) (by as_aux_lemma => kernel_rfl) (fun _ _ _ h => h) (Or.inl ⟨by as_aux_lemma => rfl, ?hyl7⟩) SD.out ?restl7
                case hyl7 => (intro w hSw; go_simp; try (with_reducible rfl))
                simp only [Act.put, List.setIfInBounds_toArray, List.set_cons_zero, List.set_cons_succ]
                refine wpAnyH_take (i := 8) (oi := ⟨some 160, _, _, _, _, _⟩) (v := ?vl8) rfl (by as_aux_lemma => kernel_rfl) (by as_aux_lemma => kernel_rfl) (by as_aux_lemma => kernel_rfl) (fun _ _ _ h => h) (Or.inl ⟨by as_aux_lemma => rfl, ?hyl8⟩) SD.out ?restl8
                case hyl8 => (intro w hSw; go_simp; try (with_reducible rfl))
                simp only [Act.put, List.setIfInBounds_toArray, List.set_cons_zero, List.set_cons_succ]
                refine wpAnyH_take (i := 9) (oi := ⟨some 161, _, _, _, _, _⟩) (v := ?vl9) rfl (by as_aux_lemma => kernel_rfl) (by as_aux_lemma => kernel_rfl) (by as_aux_lemma => kernel_rfl) (fun _ _ _ h => h) (Or.inl ⟨by as_aux_lemma => rfl, ?hyl9⟩) SD.out ?restl9
                case hyl9 => (intro w hSw; go_simp; try (with_reducible rfl))
                simp only [Act.put, List.setIfInBounds_toArray, List.set_cons_zero, List.set_cons_succ]
                refine wpAnyH_take (i := 10) (oi := ⟨some 162, _, _, _, _, _⟩) (v := ?vl10) rfl (by as_aux_lemma => kernel_rfl) (by as_aux_lemma => kernel_rfl) (by as_aux_lemma => kernel_rfl) (fun _ _ _ h => h) (Or.inl ⟨by as_aux_lemma => rfl, ?hyl10⟩) SD.out ?restl10
                case hyl10 => (intro w hSw; go_simp; try (with_reducible rfl))
                simp only [Act.put, List.setIfInBounds_toArray, List.set_cons_zero, List.set_cons_succ]
                refine wpAnyH_take (i := 11) (oi := ⟨some 163, _, _, _, _, _⟩) (v := ?vl11) rfl (by as_aux_lemma => kernel_rfl) (by as_aux_lemma => kernel_rfl) (by as_aux_lemma => kernel_rfl) (fun _ _ _ h => h) (Or.inl ⟨by as_aux_lemma => rfl, ?hyl11⟩) SD.out ?restl11
                case hyl11 => (intro w hSw; go_simp; try (with_reducible rfl))
                simp only [Act.put, List.setIfInBounds_toArray, List.set_cons_zero, List.set_cons_succ]
                refine wpAnyH_take (i := 12) (oi := ⟨some 164, _, _, _, _, _⟩) (v := ?vl12) rfl (by as_aux_lemma => kernel_rfl) (by as_aux_lemma => kernel_rfl) (by as_aux_lemma => kernel_rfl) (fun _ _ _ h => h) (Or.inl ⟨by as_aux_lemma => rfl, ?hyl12⟩) SD.out ?restl12
                case hyl12 => (intro w hSw; go_simp; try (with_reducible rfl))
                simp only [Act.put, List.setIfInBounds_toArray, List.set_cons_zero, List.set_cons_succ]
                refine wpAnyH_take (i := 13) (oi := ⟨some 165, _, _, _, _, _⟩) (v := ?vl13) rfl (by as_aux_lemma => kernel_rfl) (by as_aux_lemma => kernel_rfl) (by as_aux_lemma => kernel_rfl) (fun _ _ _ h => h) (Or.inl ⟨by as_aux_lemma => rfl, ?hyl13⟩) SD.out ?restl13
                case hyl13 => (intro w hSw; go_simp; try (with_reducible rfl))
                simp only [Act.put, List.setIfInBounds_toArray, List.set_cons_zero, List.set_cons_succ]
                refine wpAnyH_take (i := 14) (oi := ⟨some 166, _, _, _, _, _⟩) (v := ?vl14) rfl (by as_aux_lemma => kernel_rfl) (by as_aux_lemma => kernel_rfl) (by as_aux_lemma => kernel_rfl) (fun _ _ _ h => h) (Or.inl ⟨by as_aux_lemma => rfl, ?hyl14⟩) SD.out ?restl14
                case hyl14 => (intro w hSw; go_simp; try (with_reducible rfl))
                simp only [Act.put, List.setIfInBounds_toArray, List.set_cons_zero, List.set_cons_succ]
                refine wpAnyH_take (i := 15) (oi := ⟨some 167, _, _, _, _, _⟩) (v := ?vl15) rfl (by as_aux_lemma => kernel_rfl) (by as_aux_lemma => kernel_rfl) (by as_aux_lemma => kernel_rfl) (fun _ _ _ h => h) (Or.inl ⟨by as_aux_lemma => rfl, ?hyl15⟩) SD.out ?restl15
                case hyl15 => (intro w hSw; go_simp; try (with_reducible rfl))
                simp only [Act.put, List.setIfInBounds_toArray, List.set_cons_zero, List.set_cons_succ]
                refine wpAnyH_take (i := 16) (oi := ⟨some 168, _, _, _, _, _⟩) (v := ?vl16) rfl (by as_aux_lemma => kernel_rfl) (by as_aux_lemma => kernel_rfl) (by as_aux_lemma => kernel_rfl) (fun _ _ _ h => h) (Or.inl ⟨by as_aux_lemma => rfl, ?hyl16⟩) SD.out ?restl16
                case hyl16 => (intro w hSw; go_simp; try (with_reducible rfl))
                simp only [Act.put, List.setIfInBounds_toArray, List.set_cons_zero, List.set_cons_succ]
                refine wpAnyH_take (i := 17) (oi := ⟨some 169, _, _, _, _, _⟩) (v := ?vl17) rfl (by as_aux_lemma => kernel_rfl) (by as_aux_lemma => kernel_rfl) (by as_aux_lemma => kernel_rfl) (fun _ _ _ h => h) (Or.inl ⟨by as_aux_lemma => rfl, ?hyl17⟩) SD.out ?restl17
                case hyl17 => (intro w hSw; go_simp; try (with_reducible rfl))
                simp only [Act.put, List.setIfInBounds_toArray, List.set_cons_zero, List.set_cons_succ]
                refine wpAnyH_take (i := 18) (oi := ⟨some 170, _, _, _, _, _⟩) (v := undef) rfl (by as_aux_lemma => kernel_rfl) (by as_aux_lemma => kernel_rfl) (by as_aux_lemma => kernel_rfl) (fun _ _ _ h => h) (Or.inr ⟨by rfl, rfl⟩) SD.out ?restl18
                simp only [Act.put, List.setIfInBounds_toArray, List.set_cons_zero, List.set_cons_succ]
                refine wpAnyH_take (i := 19) (oi := ⟨some 171, _, _, _, _, _⟩) (v := undef) rfl (by as_aux_lemma => kernel_rfl) (by as_aux_lemma => kernel_rfl) (by as_aux_lemma => kernel_rfl) (fun _ _ _ h => h) (Or.inr ⟨by rfl, rfl⟩) SD.out ?restl19
                simp only [Act.put, List.setIfInBounds_toArray, List.set_cons_zero, List.set_cons_succ]
                refine wpAnyH_take (i := 20) (oi := ⟨some 172, _, _, _, _, _⟩) (v := undef) rfl (by as_aux_lemma => kernel_rfl) (by as_aux_lemma => kernel_rfl) (by as_aux_lemma => kernel_rfl) (fun _ _ _ h => h) (Or.inr ⟨by rfl, rfl⟩) SD.out ?restl20
                simp only [Act.put, List.setIfInBounds_toArray, List.set_cons_zero, List.set_cons_succ]
                refine wpAnyH_take (i := 21) (oi := ⟨some 173, _, _, _, _, _⟩) (v := ?vl21) rfl (by as_aux_lemma => kernel_rfl) (by as_aux_lemma => kernel_rfl) (by as_aux_lemma => kernel_rfl) (fun _ _ _ h => h) (Or.inl ⟨by as_aux_lemma => rfl, ?hyl21⟩) SD.out ?restl21
                case hyl21 => (intro w hSw; go_simp; try (with_reducible rfl))
                simp only [Act.put, List.setIfInBounds_toArray, List.set_cons_zero, List.set_cons_succ]
                refine wpAnyH_take (i := 22) (oi := ⟨some 174, _, _, _, _, _⟩) (v := ?vl22) rfl (by as_aux_lemma => kernel_rfl) (by as_aux_lemma => kernel_rfl) (by as_aux_lemma => kernel_rfl) (fun _ _ _ h => h) (Or.inl ⟨by as_aux_lemma => rfl, ?hyl22⟩) SD.out ?restl22
                case hyl22 => (intro w hSw; go_simp; try (with_reducible rfl))
                simp only [Act.put, List.setIfInBounds_toArray, List.set_cons_zero, List.set_cons_succ]
                refine wpAnyH_take (i := 23) (oi := ⟨some 175, _, _, _, _, _⟩) (v := ?vl23) rfl (by as_aux_lemma => kernel_rfl) (by as_aux_lemma => kernel_rfl) (by as_aux_lemma => kernel_rfl) (fun _ _ _ h => h) (Or.inl ⟨by as_aux_lemma => rfl, ?hyl23⟩) SD.out ?restl23
                case hyl23 => (intro w hSw; go_simp; try (with_reducible rfl))
                simp only [Act.put, List.setIfInBounds_toArray, List.set_cons_zero, List.set_cons_succ]
                refine anyH_one (i := 24) (o := ⟨some 176, _, _, _, _, _⟩) (by as_aux_lemma => kernel_rfl) rfl (fun K hK => ?_)
                rw [if_pos (by as_aux_lemma => rfl)]
                go_simp
                refine (awakeI C _).mono ?_
                rintro ev q5 ⟨rfl, hs⟩
                have BB := Lib.hid (BB.out.trans (hs.mono BB.out.size))
                have SN := HS9.out _ BB.out
                clear hs
                refine hK.out _ _ SN ?_
                clear hK K
                try simp only [Act.put, List.setIfInBounds_toArray, List.set_cons_zero, List.set_cons_succ]
                refine anyH_one (i := 25) (o := ⟨some 177, _, _, _, _, _⟩) (by as_aux_lemma => kernel_rfl) rfl (fun K hK => ?_)
                rw [if_pos (by as_aux_lemma => rfl)]
                go_simp
                refine hK.out _ _ SN ?_
                clear hK K
                try simp only [Act.put, List.setIfInBounds_toArray, List.set_cons_zero, List.set_cons_succ]
                refine anyH_one (i := 26) (o := ⟨some 6, _, _, _, _, _⟩) (by as_aux_lemma => kernel_rfl) rfl (fun K hK => ?_)
                rw [if_pos (by as_aux_lemma => rfl)]
                go_simp
                refine hK.out _ _ SN ?_
                clear hK K
                try simp only [Act.put, List.setIfInBounds_toArray, List.set_cons_zero, List.set_cons_succ]
                refine wpAnyH_done (by as_aux_lemma => kernel_rfl) ?_ _
                go_wp2
                go_ret
                exact ⟨rfl, B17.out.trans (BB.out.mono B17.out.size)⟩
              · have K1 := Lib.hid kc1
                have K2 := Lib.hid kc2
                clear kc1 kc2
                have uv_0 := V7.out.c0
                have uv_1 := V7.out.c1
                have uv_2 := V7.out.c2
                have uv_3 := V7.out.c3
                have uv_4 := V7.out.c4
                have uv_5 := V7.out.c5
                have uv_6 := V7.out.c6
                have uv_7 := V7.out.c7
                have uv_8 := V7.out.c8
                go_wp2_with fail
                refine (C.child _ v (.slice xa m xc) key _ E8.out HG.out.ris HL.out Z0.out HK.out).mono ?_
                rintro ev w11 ⟨rfl, hs⟩
                rw [show childC v key = 0 by unfold childC; rw [O1.out]; rfl, errV_zero rfl, O1.out]
                simp only [Option.getD_some]
                clear uv_0 uv_1 uv_2 uv_3 uv_4 uv_5 uv_6 uv_7 uv_8
                have B12 := Lib.hid (B11.out.trans (hs.mono B11.out.size))
                have E9 := Lib.hid (E8.out.below hs)
                have V8 := Lib.hid (V7.out.below hs)
                have H8 := Lib.hid (H7.out.below hs)
                have UW5 := Lib.hid (UW4.out.below hs)
                have FA5 := Lib.hid (FA4.out.below hs)
                have FX3 := Lib.hid (FX2.out.below hs)
                have UX2 := Lib.hid (UX1.out.below hs)
                clear B11 E8 V7 H7 UW4 FA4 FX2 UX1
                clear hs
                unfold entVal
                have hs := alloc_below0 w11 (entObj c)
                have B13 := Lib.hid (B12.out.trans (hs.mono B12.out.size))
                have E10 := Lib.hid (E9.out.below hs)
                have V9 := Lib.hid (V8.out.below hs)
                have H9 := Lib.hid (H8.out.below hs)
                have UW6 := Lib.hid (UW5.out.below hs)
                have FA6 := Lib.hid (FA5.out.below hs)
                have FX4 := Lib.hid (FX3.out.below hs)
                have UX3 := Lib.hid (UX2.out.below hs)
                clear B12 E9 V8 H8 UW5 FA5 FX3 UX2
                have X10 := Lib.hid (EB.new c w11)
                clear hs
                unfold entObj at B13 E10 V9 H9 UW6 FA6 FX4 UX3 X10
                have uuw_0 := UW6.out.c0
                have uuw_1 := UW6.out.c1
                have uuw_2 := UW6.out.c2
                have uuw_3 := UW6.out.c3
                have uuw_4 := UW6.out.c4
                have uuw_5 := UW6.out.c5
                have uuw_6 := UW6.out.c6
                have uuw_7 := UW6.out.c7
                have uuw_8 := UW6.out.c8
                go_wp2_with fail
                refine (C.child _ dw (.slice zaA m2 zcA) key _ FA6.out GW.out.ris L23.out.1 YW0.out HK.out).mono ?_
                rintro ev w12 ⟨rfl, hs⟩
                rw [show childC dw key = 2 by unfold childC; rw [K1.out]; rfl, errV_code (show (2 : Int) ≠ 0 by decide), K1.out]
                simp only [Option.getD_none]
                clear uuw_0 uuw_1 uuw_2 uuw_3 uuw_4 uuw_5 uuw_6 uuw_7 uuw_8
                have B14 := Lib.hid (B13.out.trans (hs.mono B13.out.size))
                have E11 := Lib.hid (E10.out.below hs)
                have V10 := Lib.hid (V9.out.below hs)
                have H10 := Lib.hid (H9.out.below hs)
                have UW7 := Lib.hid (UW6.out.below hs)
                have FA7 := Lib.hid (FA6.out.below hs)
                have FX5 := Lib.hid (FX4.out.below hs)
                have UX4 := Lib.hid (UX3.out.below hs)
                have X11 := Lib.hid (X10.out.below hs)
                clear B13 E10 V9 H9 UW6 FA6 FX4 UX3 X10
                clear hs
                unfold entVal
                have hs := alloc_below0 w12 (entObj e0)
                have B15 := Lib.hid (B14.out.trans (hs.mono B14.out.size))
                have E12 := Lib.hid (E11.out.below hs)
                have V11 := Lib.hid (V10.out.below hs)
                have H11 := Lib.hid (H10.out.below hs)
                have UW8 := Lib.hid (UW7.out.below hs)
                have FA8 := Lib.hid (FA7.out.below hs)
                have FX6 := Lib.hid (FX5.out.below hs)
                have UX5 := Lib.hid (UX4.out.below hs)
                have X12 := Lib.hid (X11.out.below hs)
                clear B14 E11 V10 H10 UW7 FA7 FX5 UX4 X11
                clear hs
                unfold entObj at B15 E12 V11 H11 UW8 FA8 FX6 UX5 X12
                have uux_0 := UX5.out.c0
                have uux_1 := UX5.out.c1
                have uux_2 := UX5.out.c2
                have uux_3 := UX5.out.c3
                have uux_4 := UX5.out.c4
                have uux_5 := UX5.out.c5
                have uux_6 := UX5.out.c6
                have uux_7 := UX5.out.c7
                have uux_8 := UX5.out.c8
                go_wp2_with fail
                refine (C.child _ xv (.slice zaB m3 zcB) key _ FX6.out GX.out.ris L23.out.2 YX0.out HK.out).mono ?_
                rintro ev w13 ⟨rfl, hs⟩
                rw [show childC xv key = 0 by unfold childC; rw [K2.out]; rfl, errV_zero rfl, K2.out]
                simp only [Option.getD_some]
                clear uux_0 uux_1 uux_2 uux_3 uux_4 uux_5 uux_6 uux_7 uux_8
                have B16 := Lib.hid (B15.out.trans (hs.mono B15.out.size))
                have E13 := Lib.hid (E12.out.below hs)
                have V12 := Lib.hid (V11.out.below hs)
                have H12 := Lib.hid (H11.out.below hs)
                have UW9 := Lib.hid (UW8.out.below hs)
                have FA9 := Lib.hid (FA8.out.below hs)
                have FX7 := Lib.hid (FX6.out.below hs)
                have UX6 := Lib.hid (UX5.out.below hs)
                have X13 := Lib.hid (X12.out.below hs)
                clear B15 E12 V11 H11 UW8 FA8 FX6 UX5 X12
                clear hs
                unfold entVal
                have hs := alloc_below0 w13 (entObj c)
                have B17 := Lib.hid (B16.out.trans (hs.mono B16.out.size))
                have E14 := Lib.hid (E13.out.below hs)
                have V13 := Lib.hid (V12.out.below hs)
                have H13 := Lib.hid (H12.out.below hs)
                have UW10 := Lib.hid (UW9.out.below hs)
                have FA10 := Lib.hid (FA9.out.below hs)
                have FX8 := Lib.hid (FX7.out.below hs)
                have UX7 := Lib.hid (UX6.out.below hs)
                have X14 := Lib.hid (X13.out.below hs)
                clear B16 E13 V12 H12 UW9 FA9 FX7 UX6 X13
                have X20 := Lib.hid (EB.new c w13)
                clear hs
                unfold entObj at B17 E14 V13 H13 UW10 FA10 FX8 UX7 X14 X20
                go_wp2_with fail
                generalize hw14 : World.alloc w13 _ = w14 at *
                clear hw14
                have HS9 := Lib.hid (show ∀ w', Below w14.heap.size w14 w' → (fun w' => w'.cell? ⟨w13.heap.size, 0, none⟩ = some (.string c.1) ∧ w'.cell? ⟨w13.heap.size, 1, none⟩ = some (.int .i64 c.2) ∧ w'.cell? ⟨w11.heap.size, 0, none⟩ = some (.string c.1) ∧ w'.cell? ⟨w11.heap.size, 1, none⟩ = some (.int .i64 c.2)) w' from fun w' hs => ⟨(X20.out.below hs).c0, (X20.out.below hs).c1, (X14.out.below hs).c0, (X14.out.below hs).c1⟩)
                have BB := Lib.hid (Below.refl w14.heap.size w14).drew
                have k1 : (c.1.toList == c.1.toList) = true := by simp
                have k2 : (c.2 == c.2) = true := by simp
                refine anyH_region (fun w' => w'.cell? ⟨w13.heap.size, 0, none⟩ = some (.string c.1) ∧ w'.cell? ⟨w13.heap.size, 1, none⟩ = some (.int .i64 c.2) ∧ w'.cell? ⟨w11.heap.size, 0, none⟩ = some (.string c.1) ∧ w'.cell? ⟨w11.heap.size, 1, none⟩ = some (.int .i64 c.2)) (by as_aux_lemma => kernel_rfl) ?_
                have SD := Lib.hid (HS9.out w14.drew BB.out)
                refine wpAnyH_take (i := 0) (oi := ⟨some 152, _, _, _, _, _⟩) (v := ?vr0) rfl (by as_aux_lemma => kernel_rfl) (by as_aux_lemma => kernel_rfl) (by as_aux_lemma => kernel_rfl) (fun _ _ _ h => h) (Or.inl ⟨by as_aux_lemma => rfl, ?hyr0⟩) SD.out ?restr0
                case hyr0 => (intro w hSw; go_simp; try (with_reducible rfl))
                simp only [Act.put, List.setIfInBounds_toArray, List.set_cons_zero, List.set_cons_succ]
                refine wpAnyH_take (i := 1) (oi := ⟨some 153, _, _, _, _, _⟩) (v := ?vr1) rfl (by as_aux_lemma => kernel_rfl) (by as_aux_lemma => kernel_rfl) (by as_aux_lemma => kernel_rfl) (fun _ _ _ h => h) (Or.inl ⟨by as_aux_lemma => rfl, ?hyr1⟩) SD.out ?restr1
                case hyr1 => (intro w hSw; go_simp; try (with_reducible rfl))
                simp only [Act.put, List.setIfInBounds_toArray, List.set_cons_zero, List.set_cons_succ]
                refine wpAnyH_take (i := 2) (oi := ⟨some 154, _, _, _, _, _⟩) (v := ?vr2) rfl (by as_aux_lemma => kernel_rfl) (by as_aux_lemma => kernel_rfl) (by as_aux_lemma => kernel_rfl) (fun _ _ _ h => h) (Or.inl ⟨by as_aux_lemma => rfl, ?hyr2⟩) SD.out ?restr2
                case hyr2 => (intro w hSw; go_simp; try (with_reducible rfl))
                simp only [Act.put, List.setIfInBounds_toArray, List.set_cons_zero, List.set_cons_succ]
                refine wpAnyH_take (i := 3) (oi := ⟨some 155, _, _, _, _, _⟩) (v := ?vr3) rfl (by as_aux_lemma => kernel_rfl) (by as_aux_lemma => kernel_rfl) (by as_aux_lemma => kernel_rfl) (fun _ _ _ h => h) (Or.inl ⟨by as_aux_lemma => rfl, ?hyr3⟩) SD.out ?restr3
                case hyr3 => (intro w hSw; go_simp; try (with_reducible rfl))
                simp only [Act.put, List.setIfInBounds_toArray, List.set_cons_zero, List.set_cons_succ]
                refine wpAnyH_take (i := 4) (oi := ⟨some 156, _, _, _, _, _⟩) (v := ?vr4) rfl (by as_aux_lemma => kernel_rfl) (by as_aux_lemma => kernel_rfl) (by as_aux_lemma => kernel_rfl) (fun _ _ _ h => h) (Or.inl ⟨by as_aux_lemma => rfl, ?hyr4⟩) SD.out ?restr4
                case hyr4 => (intro w hSw; go_simp; try (with_reducible rfl))
                simp only [Act.put, List.setIfInBounds_toArray, List.set_cons_zero, List.set_cons_succ]
                refine wpAnyH_take (i := 5) (oi := ⟨some 157, _, _, _, _, _⟩) (v := ?vr5) rfl (by as_aux_lemma => kernel_rfl) (by as_aux_lemma => kernel_rfl) (by as_aux_lemma => kernel_rfl) (fun _ _ _ h => h) (Or.inl ⟨by as_aux_lemma => rfl, ?hyr5⟩) SD.out ?restr5
                case hyr5 => (intro w hSw; go_simp; try (with_reducible rfl))
                simp only [Act.put, List.setIfInBounds_toArray, List.set_cons_zero, List.set_cons_succ]
                refine wpAnyH_take (i := 6) (oi := ⟨some 158, _, _, _, _, _⟩) (v := ?vr6) rfl (by as_aux_lemma => kernel_rfl) (by as_aux_lemma => kernel_rfl) (by as_aux_lemma => kernel_rfl) (fun _ _ _ h => h) (Or.inl ⟨by as_aux_lemma => rfl, ?hyr6⟩) SD.out ?restr6
                case hyr6 => (intro w hSw; go_simp; try (with_reducible rfl))
                simp only [Act.put, List.setIfInBounds_toArray, List.set_cons_zero, List.set_cons_succ]
                refine wpAnyH_take (i := 7) (oi := ⟨some 159, _, _, _, _, _⟩) (v := ?vr7) rfl (by as_aux_lemma => kernel_rfl) (by as_aux_lemma => kernel_rfl) (by as_aux_lemma => kernel_rfl) (fun _ _ _ h => h) (Or.inl ⟨by as_aux_lemma => rfl, ?hyr7⟩) SD.out ?restr7
                case hyr7 => (intro w hSw; go_simp; try (with_reducible rfl))
                simp only [Act.put, List.setIfInBounds_toArray, List.set_cons_zero, List.set_cons_succ]
                refine wpAnyH_take (i := 8) (oi := ⟨some 160, _, _, _, _, _⟩) (v := ?vr8) rfl (by as_aux_lemma => kernel_rfl) (by as_aux_lemma => kernel_rfl) (by as_aux_lemma => kernel_rfl) (fun _ _ _ h => h) (Or.inl ⟨by as_aux_lemma => rfl, ?hyr8⟩) SD.out ?restr8
                case hyr8 => (intro w hSw; go_simp; try (with_reducible rfl))
                simp only [Act.put, List.setIfInBounds_toArray, List.set_cons_zero, List.set_cons_succ]
                refine wpAnyH_take (i := 9) (oi := ⟨some 161, _, _, _, _, _⟩) (v := undef) rfl (by as_aux_lemma => kernel_rfl) (by as_aux_lemma => kernel_rfl) (by as_aux_lemma => kernel_rfl) (fun _ _ _ h => h) (Or.inr ⟨by rfl, rfl⟩) SD.out ?restr9
                simp only [Act.put, List.setIfInBounds_toArray, List.set_cons_zero, List.set_cons_succ]
                refine wpAnyH_take (i := 10) (oi := ⟨some 162, _, _, _, _, _⟩) (v := undef) rfl (by as_aux_lemma => kernel_rfl) (by as_aux_lemma => kernel_rfl) (by as_aux_lemma => kernel_rfl) (fun _ _ _ h => h) (Or.inr ⟨by rfl, rfl⟩) SD.out ?restr10
                simp only [Act.put, List.setIfInBounds_toArray, List.set_cons_zero, List.set_cons_succ]
                refine wpAnyH_take (i := 11) (oi := ⟨some 163, _, _, _, _, _⟩) (v := undef) rfl (by as_aux_lemma => kernel_rfl) (by as_aux_lemma => kernel_rfl) (by as_aux_lemma => kernel_rfl) (fun _ _ _ h => h) (Or.inr ⟨by rfl, rfl⟩) SD.out ?restr11
                simp only [Act.put, List.setIfInBounds_toArray, List.set_cons_zero, List.set_cons_succ]
                refine wpAnyH_take (i := 12) (oi := ⟨some 164, _, _, _, _, _⟩) (v := ?vr12) rfl (by as_aux_lemma => kernel_rfl) (by as_aux_lemma => kernel_rfl) (by as_aux_lemma => kernel_rfl) (fun _ _ _ h => h) (Or.inl ⟨by as_aux_lemma => rfl, ?hyr12⟩) SD.out ?restr12
                case hyr12 => (intro w hSw; go_simp; try (with_reducible rfl))
                simp only [Act.put, List.setIfInBounds_toArray, List.set_cons_zero, List.set_cons_succ]
                refine wpAnyH_take (i := 13) (oi := ⟨some 165, _, _, _, _, _⟩) (v := ?vr13) rfl (by as_aux_lemma => kernel_rfl) (by as_aux_lemma => kernel_rfl) (by as_aux_lemma => kernel_rfl) (fun _ _ _ h => h) (Or.inl ⟨by as_aux_lemma => rfl, ?hyr13⟩) SD.out ?restr13
                case hyr13 => (intro w hSw; go_simp; try (with_reducible rfl))
                simp only [Act.put, List.setIfInBounds_toArray, List.set_cons_zero, List.set_cons_succ]
                refine wpAnyH_take (i := 14) (oi := ⟨some 166, _, _, _, _, _⟩) (v := ?vr14) rfl (by as_aux_lemma => kernel_rfl) (by as_aux_lemma => kernel_rfl) (by as_aux_lemma => kernel_rfl) (fun _ _ _ h => h) (Or.inl ⟨by as_aux_lemma => rfl, ?hyr14⟩) SD.out ?restr14
                case hyr14 => (intro w hSw; go_simp; try (with_reducible rfl))
                simp only [Act.put, List.setIfInBounds_toArray, List.set_cons_zero, List.set_cons_succ]
                refine wpAnyH_take (i := 15) (oi := ⟨some 167, _, _, _, _, _⟩) (v := ?vr15) rfl (by as_aux_lemma => kernel_rfl) (by as_aux_lemma => kernel_rfl) (by as_aux_lemma => kernel_rfl) (fun _ _ _ h => h) (Or.inl ⟨by as_aux_lemma => rfl, ?hyr15⟩) SD.out ?restr15
                case hyr15 => (intro w hSw; go_simp; try (with_reducible rfl))
                simp only [Act.put, List.setIfInBounds_toArray, List.set_cons_zero, List.set_cons_succ]
                refine wpAnyH_take (i := 16) (oi := ⟨some 168, _, _, _, _, _⟩) (v := ?vr16) rfl (by as_aux_lemma => kernel_rfl) (by as_aux_lemma => kernel_rfl) (by as_aux_lemma => kernel_rfl) (fun _ _ _ h => h) (Or.inl ⟨by as_aux_lemma => rfl, ?hyr16⟩) SD.out ?restr16
                case hyr16 => (intro w hSw; go_simp; try (with_reducible rfl))
                simp only [Act.put, List.setIfInBounds_toArray, List.set_cons_zero, List.set_cons_succ]
                refine wpAnyH_take (i := 17) (oi := ⟨some 169, _, _, _, _, _⟩) (v := ?vr17) rfl (by as_aux_lemma => kernel_rfl) (by as_aux_lemma => kernel_rfl) (by as_aux_lemma => kernel_rfl) (fun _ _ _ h => h) (Or.inl ⟨by as_aux_lemma => rfl, ?hyr17⟩) SD.out ?restr17
                case hyr17 => (intro w hSw; go_simp; try (with_reducible rfl))
                simp only [Act.put, List.setIfInBounds_toArray, List.set_cons_zero, List.set_cons_succ]
                refine wpAnyH_take (i := 18) (oi := ⟨some 170, _, _, _, _, _⟩) (v := ?vr18) rfl (by as_aux_lemma => kernel_rfl) (by as_aux_lemma => kernel_rfl) (by as_aux_lemma => kernel_rfl) (fun _ _ _ h => h) (Or.inl ⟨by as_aux_lemma => rfl, ?hyr18⟩) SD.out ?restr18
                case hyr18 => (intro w hSw; go_simp; try (with_reducible rfl))
                simp only [Act.put, List.setIfInBounds_toArray, List.set_cons_zero, List.set_cons_succ]
                refine wpAnyH_take (i := 19) (oi := ⟨some 171, _, _, _, _, _⟩) (v := ?vr19) rfl (by as_aux_lemma => kernel_rfl) (by as_aux_lemma => kernel_rfl) (by as_aux_lemma => kernel_rfl) (fun _ _ _ h => h) (Or.inl ⟨by as_aux_lemma => rfl, ?hyr19⟩) SD.out ?restr19
                case hyr19 => (intro w hSw; go_simp; try (with_reducible rfl))
                simp only [Act.put, List.setIfInBounds_toArray, List.set_cons_zero, List.set_cons_succ]
                refine wpAnyH_take (i := 20) (oi := ⟨some 172, _, _, _, _, _⟩) (v := ?vr20) rfl (by as_aux_lemma => kernel_rfl) (by as_aux_lemma => kernel_rfl) (by as_aux_lemma => kernel_rfl) (fun _ _ _ h => h) (Or.inl ⟨by as_aux_lemma => rfl, ?hyr20⟩) SD.out ?restr20
                case hyr20 => (intro w hSw; go_simp; try (with_reducible rfl))
                simp only [Act.put, List.setIfInBounds_toArray, List.set_cons_zero, List.set_cons_succ]
                refine wpAnyH_take (i := 21) (oi := ⟨some 173, _, _, _, _, _⟩) (v := ?vr21) rfl (by as_aux_lemma => kernel_rfl) (by as_aux_lemma => kernel_rfl) (by as_aux_lemma => kernel_rfl) (fun _ _ _ h => h) (Or.inl ⟨by as_aux_lemma => rfl, ?hyr21⟩) SD.out ?restr21
                case hyr21 => (intro w hSw; go_simp; try (with_reducible rfl))
                simp only [Act.put, List.setIfInBounds_toArray, List.set_cons_zero, List.set_cons_succ]
                refine wpAnyH_take (i := 22) (oi := ⟨some 174, _, _, _, _, _⟩) (v := ?vr22) rfl (by as_aux_lemma => kernel_rfl) (by as_aux_lemma => kernel_rfl) (by as_aux_lemma => kernel_rfl) (fun _ _ _ h => h) (Or.inl ⟨by as_aux_lemma => rfl, ?hyr22⟩) SD.out ?restr22
                case hyr22 => (intro w hSw; go_simp; try (with_reducible rfl))
                simp only [Act.put, List.setIfInBounds_toArray, List.set_cons_zero, List.set_cons_succ]
                refine wpAnyH_take (i := 23) (oi := ⟨some 175, _, _, _, _, _⟩) (v := ?vr23) rfl (by as_aux_lemma => kernel_rfl) (by as_aux_lemma => kernel_rfl) (by as_aux_lemma => kernel_rfl) (fun _ _ _ h => h) (Or.inl ⟨by as_aux_lemma => rfl, ?hyr23⟩) SD.out ?restr23
                case hyr23 => (intro w hSw; go_simp; try (with_reducible rfl))
                simp only [Act.put, List.setIfInBounds_toArray, List.set_cons_zero, List.set_cons_succ]
                refine anyH_one (i := 24) (o := ⟨some 176, _, _, _, _, _⟩) (by as_aux_lemma => kernel_rfl) rfl (fun K hK => ?_)
                rw [if_pos (by as_aux_lemma => rfl)]
                go_simp
                refine (awakeI C _).mono ?_
                rintro ev q5 ⟨rfl, hs⟩
                have BB := Lib.hid (BB.out.trans (hs.mono BB.out.size))
                have SN := HS9.out _ BB.out
                clear hs
                refine hK.out _ _ SN ?_
                clear hK K
                try simp only [Act.put, List.setIfInBounds_toArray, List.set_cons_zero, List.set_cons_succ]
                refine anyH_one (i := 25) (o := ⟨some 177, _, _, _, _, _⟩) (by as_aux_lemma => kernel_rfl) rfl (fun K hK => ?_)
                rw [if_pos (by as_aux_lemma => rfl)]
                go_simp
                refine hK.out _ _ SN ?_
                clear hK K
                try simp only [Act.put, List.setIfInBounds_toArray, List.set_cons_zero, List.set_cons_succ]
                refine anyH_one (i := 26) (o := ⟨some 6, _, _, _, _, _⟩) (by as_aux_lemma => kernel_rfl) rfl (fun K hK => ?_)
                rw [if_pos (by as_aux_lemma => rfl)]
                go_simp
                refine hK.out _ _ SN ?_
                clear hK K
                try simp only [Act.put, List.setIfInBounds_toArray, List.set_cons_zero, List.set_cons_succ]
                refine wpAnyH_done (by as_aux_lemma => kernel_rfl) ?_ _
                go_wp2
                go_ret
                exact ⟨rfl, B17.out.trans (BB.out.mono B17.out.size)⟩
        · have v_0 := V0.out.c0
          have v_1 := V0.out.c1
          have v_2 := V0.out.c2
          have v_3 := V0.out.c3
          have v_4 := V0.out.c4
          have v_5 := V0.out.c5
          have v_6 := V0.out.c6
          have v_7 := V0.out.c7
          have v_8 := V0.out.c8
          go_wp2_with fail
          refine (C.splitNo _ v (.slice xa m xc) page _ E1.out HL.out Z0.out hw).mono ?_
          rintro ev w4 ⟨sa, sb, rfl, ha, hb, hs⟩
          obtain ⟨ra, rc, ea, ec, rfl, -⟩ := ha.open
          obtain ⟨rb, rq, eb, eq, rfl, -⟩ := hb.open
          simp only [RecD.zero, Sc.zero, recVal, List.length_nil]
          clear v_0 v_1 v_2 v_3 v_4 v_5 v_6 v_7 v_8
          have L5 := Lib.hid (L4.out.below hs)
          have B5 := Lib.hid (B4.out.trans (hs.mono B4.out.size))
          have X3 := Lib.hid (X2.out.below hs)
          have E2 := Lib.hid (E1.out.below hs)
          have V1 := Lib.hid (V0.out.below hs)
          have H1 := Lib.hid (H0.out.below hs)
          clear L4 B4 X2 E1 V0 H0
          clear hs ha hb
          obtain ⟨yw, hyw⟩ : ∃ y, whyI v = y := ⟨_, rfl⟩
          rw [hyw]
          clear hyw hw
          obtain ⟨gw, hgw⟩ : ∃ W, W = (World.alloc (World.alloc w4 (.cells #[.int .i64 0, .string ⟨#[]⟩, .string ⟨#[]⟩, .bool false, .int .i64 0, .slice none 0 0, .slice none 0 0, .string ⟨#[]⟩, .string ⟨#[]⟩, .int .i64 0, .int .i64 0, .int .i64 0, .string ⟨#[]⟩, .int .i64 0, .int .i64 0] 39)) (.cells #[.int .i64 0, .string ⟨#[]⟩, .string ⟨#[]⟩, .bool false, .int .i64 0, .slice none 0 0, .slice none 0 0, .string ⟨#[]⟩, .string ⟨#[]⟩, .int .i64 0, .int .i64 0, .int .i64 0, .string ⟨#[]⟩, .int .i64 0, .int .i64 0] 39)) := ⟨_, rfl⟩
          have ga : Below w4.heap.size w4 gw := by rw [hgw]; exact (alloc2_below _ _ _)
          have gz0 : HB (w4.heap.size) (.cells #[.int .i64 0, .string ⟨#[]⟩, .string ⟨#[]⟩, .bool false, .int .i64 0, .slice none 0 0, .slice none 0 0, .string ⟨#[]⟩, .string ⟨#[]⟩, .int .i64 0, .int .i64 0, .int .i64 0, .string ⟨#[]⟩, .int .i64 0, .int .i64 0] 39) gw := by rw [hgw]; exact (HB.fst _ _ w4)
          have gz1 : HB (w4.heap.size + 1) (.cells #[.int .i64 0, .string ⟨#[]⟩, .string ⟨#[]⟩, .bool false, .int .i64 0, .slice none 0 0, .slice none 0 0, .string ⟨#[]⟩, .string ⟨#[]⟩, .int .i64 0, .int .i64 0, .int .i64 0, .string ⟨#[]⟩, .int .i64 0, .int .i64 0] 39) gw := by rw [hgw]; exact (HB.snd _ _ w4)
          have gb : Below w4.heap.size w4 (World.setCells gw (w4.heap.size) 0 (#[.int .i64 0, .string ⟨#[]⟩, .string ⟨#[]⟩, .bool false, .int .i64 0, .slice ra 0 rc, .slice ea 0 ec, .string ⟨#[]⟩, .string ⟨#[]⟩, .int .i64 0, .int .i64 0, .int .i64 0, .string ⟨#[]⟩, .int .i64 0, .int .i64 0] : Array Value).toList) := below_setCells (b := w4.heap.size) (by omega) (#[.int .i64 0, .string ⟨#[]⟩, .string ⟨#[]⟩, .bool false, .int .i64 0, .slice ra 0 rc, .slice ea 0 ec, .string ⟨#[]⟩, .string ⟨#[]⟩, .int .i64 0, .int .i64 0, .int .i64 0, .string ⟨#[]⟩, .int .i64 0, .int .i64 0] : Array Value).toList 0 _ ga
          have gy0 : HB (w4.heap.size) (.cells (#[.int .i64 0, .string ⟨#[]⟩, .string ⟨#[]⟩, .bool false, .int .i64 0, .slice ra 0 rc, .slice ea 0 ec, .string ⟨#[]⟩, .string ⟨#[]⟩, .int .i64 0, .int .i64 0, .int .i64 0, .string ⟨#[]⟩, .int .i64 0, .int .i64 0] : Array Value) 39) (World.setCells gw (w4.heap.size) 0 (#[.int .i64 0, .string ⟨#[]⟩, .string ⟨#[]⟩, .bool false, .int .i64 0, .slice ra 0 rc, .slice ea 0 ec, .string ⟨#[]⟩, .string ⟨#[]⟩, .int .i64 0, .int .i64 0, .int .i64 0, .string ⟨#[]⟩, .int .i64 0, .int .i64 0] : Array Value).toList) := gz0.sets (#[.int .i64 0, .string ⟨#[]⟩, .string ⟨#[]⟩, .bool false, .int .i64 0, .slice ra 0 rc, .slice ea 0 ec, .string ⟨#[]⟩, .string ⟨#[]⟩, .int .i64 0, .int .i64 0, .int .i64 0, .string ⟨#[]⟩, .int .i64 0, .int .i64 0] : Array Value).toList rfl
          have gx1 : HB (w4.heap.size + 1) (.cells #[.int .i64 0, .string ⟨#[]⟩, .string ⟨#[]⟩, .bool false, .int .i64 0, .slice none 0 0, .slice none 0 0, .string ⟨#[]⟩, .string ⟨#[]⟩, .int .i64 0, .int .i64 0, .int .i64 0, .string ⟨#[]⟩, .int .i64 0, .int .i64 0] 39) (World.setCells gw (w4.heap.size) 0 (#[.int .i64 0, .string ⟨#[]⟩, .string ⟨#[]⟩, .bool false, .int .i64 0, .slice ra 0 rc, .slice ea 0 ec, .string ⟨#[]⟩, .string ⟨#[]⟩, .int .i64 0, .int .i64 0, .int .i64 0, .string ⟨#[]⟩, .int .i64 0, .int .i64 0] : Array Value).toList) := gz1.off (b2 := w4.heap.size) (by omega) (#[.int .i64 0, .string ⟨#[]⟩, .string ⟨#[]⟩, .bool false, .int .i64 0, .slice ra 0 rc, .slice ea 0 ec, .string ⟨#[]⟩, .string ⟨#[]⟩, .int .i64 0, .int .i64 0, .int .i64 0, .string ⟨#[]⟩, .int .i64 0, .int .i64 0] : Array Value).toList 0
          have hs : Below w4.heap.size w4 (World.setCells (World.setCells gw (w4.heap.size) 0 (#[.int .i64 0, .string ⟨#[]⟩, .string ⟨#[]⟩, .bool false, .int .i64 0, .slice ra 0 rc, .slice ea 0 ec, .string ⟨#[]⟩, .string ⟨#[]⟩, .int .i64 0, .int .i64 0, .int .i64 0, .string ⟨#[]⟩, .int .i64 0, .int .i64 0] : Array Value).toList) (w4.heap.size + 1) 0 (#[.int .i64 0, .string ⟨#[]⟩, .string ⟨#[]⟩, .bool false, .int .i64 0, .slice rb 0 rq, .slice eb 0 eq, .string ⟨#[]⟩, .string ⟨#[]⟩, .int .i64 0, .int .i64 0, .int .i64 0, .string ⟨#[]⟩, .int .i64 0, .int .i64 0] : Array Value).toList) := below_setCells (b := w4.heap.size + 1) (by omega) (#[.int .i64 0, .string ⟨#[]⟩, .string ⟨#[]⟩, .bool false, .int .i64 0, .slice rb 0 rq, .slice eb 0 eq, .string ⟨#[]⟩, .string ⟨#[]⟩, .int .i64 0, .int .i64 0, .int .i64 0, .string ⟨#[]⟩, .int .i64 0, .int .i64 0] : Array Value).toList 0 _ gb
          have gu0 : HB (w4.heap.size) (.cells (#[.int .i64 0, .string ⟨#[]⟩, .string ⟨#[]⟩, .bool false, .int .i64 0, .slice ra 0 rc, .slice ea 0 ec, .string ⟨#[]⟩, .string ⟨#[]⟩, .int .i64 0, .int .i64 0, .int .i64 0, .string ⟨#[]⟩, .int .i64 0, .int .i64 0] : Array Value) 39) (World.setCells (World.setCells gw (w4.heap.size) 0 (#[.int .i64 0, .string ⟨#[]⟩, .string ⟨#[]⟩, .bool false, .int .i64 0, .slice ra 0 rc, .slice ea 0 ec, .string ⟨#[]⟩, .string ⟨#[]⟩, .int .i64 0, .int .i64 0, .int .i64 0, .string ⟨#[]⟩, .int .i64 0, .int .i64 0] : Array Value).toList) (w4.heap.size + 1) 0 (#[.int .i64 0, .string ⟨#[]⟩, .string ⟨#[]⟩, .bool false, .int .i64 0, .slice rb 0 rq, .slice eb 0 eq, .string ⟨#[]⟩, .string ⟨#[]⟩, .int .i64 0, .int .i64 0, .int .i64 0, .string ⟨#[]⟩, .int .i64 0, .int .i64 0] : Array Value).toList) := gy0.off (b2 := w4.heap.size + 1) (by omega) (#[.int .i64 0, .string ⟨#[]⟩, .string ⟨#[]⟩, .bool false, .int .i64 0, .slice rb 0 rq, .slice eb 0 eq, .string ⟨#[]⟩, .string ⟨#[]⟩, .int .i64 0, .int .i64 0, .int .i64 0, .string ⟨#[]⟩, .int .i64 0, .int .i64 0] : Array Value).toList 0
          have gu1 : HB (w4.heap.size + 1) (.cells (#[.int .i64 0, .string ⟨#[]⟩, .string ⟨#[]⟩, .bool false, .int .i64 0, .slice rb 0 rq, .slice eb 0 eq, .string ⟨#[]⟩, .string ⟨#[]⟩, .int .i64 0, .int .i64 0, .int .i64 0, .string ⟨#[]⟩, .int .i64 0, .int .i64 0] : Array Value) 39) (World.setCells (World.setCells gw (w4.heap.size) 0 (#[.int .i64 0, .string ⟨#[]⟩, .string ⟨#[]⟩, .bool false, .int .i64 0, .slice ra 0 rc, .slice ea 0 ec, .string ⟨#[]⟩, .string ⟨#[]⟩, .int .i64 0, .int .i64 0, .int .i64 0, .string ⟨#[]⟩, .int .i64 0, .int .i64 0] : Array Value).toList) (w4.heap.size + 1) 0 (#[.int .i64 0, .string ⟨#[]⟩, .string ⟨#[]⟩, .bool false, .int .i64 0, .slice rb 0 rq, .slice eb 0 eq, .string ⟨#[]⟩, .string ⟨#[]⟩, .int .i64 0, .int .i64 0, .int .i64 0, .string ⟨#[]⟩, .int .i64 0, .int .i64 0] : Array Value).toList) := gx1.sets (#[.int .i64 0, .string ⟨#[]⟩, .string ⟨#[]⟩, .bool false, .int .i64 0, .slice rb 0 rq, .slice eb 0 eq, .string ⟨#[]⟩, .string ⟨#[]⟩, .int .i64 0, .int .i64 0, .int .i64 0, .string ⟨#[]⟩, .int .i64 0, .int .i64 0] : Array Value).toList rfl
          have L6 := Lib.hid (L5.out.below hs)
          have B6 := Lib.hid (B5.out.trans (hs.mono B5.out.size))
          have X4 := Lib.hid (X3.out.below hs)
          have E3 := Lib.hid (E2.out.below hs)
          have V2 := Lib.hid (V1.out.below hs)
          have H2 := Lib.hid (H1.out.below hs)
          clear L5 B5 X3 E2 V1 H1
          clear ga gb gy0 gu0 gu1 gz1 hs
          go_wp2_with (first | (rw [← hgw]; refine wpList_store_mid rfl 39 (.tmp 9) (.tmp 41) rfl (w4.heap.size) 0 (#[.int .i64 0, .string ⟨#[]⟩, .string ⟨#[]⟩, .bool false, .int .i64 0, .slice ra 0 rc, .slice ea 0 ec, .string ⟨#[]⟩, .string ⟨#[]⟩, .int .i64 0, .int .i64 0, .int .i64 0, .string ⟨#[]⟩, .int .i64 0, .int .i64 0] : Array Value) rfl rfl ?_ recInfoS (by as_aux_lemma => kernel_rfl) ?_; exact gz0.there 15 (Nat.le_refl _); clear gz0) | (refine wpList_store_mid rfl 39 (.tmp 10) (.tmp 42) rfl (w4.heap.size + 1) 0 (#[.int .i64 0, .string ⟨#[]⟩, .string ⟨#[]⟩, .bool false, .int .i64 0, .slice rb 0 rq, .slice eb 0 eq, .string ⟨#[]⟩, .string ⟨#[]⟩, .int .i64 0, .int .i64 0, .int .i64 0, .string ⟨#[]⟩, .int .i64 0, .int .i64 0] : Array Value) rfl rfl ?_ recInfoS (by as_aux_lemma => kernel_rfl) ?_; exact gx1.there 15 (Nat.le_refl _); clear gx1; generalize hG : World.setCells (World.setCells _ _ _ _) _ _ _ = w5 at *; clear hG hgw))
          refine (awakeI C _).mono ?_
          rintro ev w6 ⟨rfl, hs⟩
          have L7 := Lib.hid (L6.out.below hs)
          have B7 := Lib.hid (B6.out.trans (hs.mono B6.out.size))
          have X5 := Lib.hid (X4.out.below hs)
          have E4 := Lib.hid (E3.out.below hs)
          have V3 := Lib.hid (V2.out.below hs)
          have H3 := Lib.hid (H2.out.below hs)
          clear L6 B6 X4 E3 V2 H2
          clear hs
          go_wp2
          go_ret
          exact ⟨rfl, B7.out⟩
      · rw [errV_code hc]
        have hs := alloc_below0 w3 (ivObj v (.slice xa m xc))
        have L4 := Lib.hid (L3.out.below hs)
        have B4 := Lib.hid (B3.out.trans (hs.mono B3.out.size))
        have X2 := Lib.hid (X1.out.below hs)
        have E1 := Lib.hid (E0.out.below hs)
        clear L3 B3 X1 E0
        have V0 := Lib.hid (VB.new v (.slice xa m xc) w3)
        clear hs
        unfold ivObj at L4 B4 X2 E1 V0
        have HZ := Lib.hid (viewI_bad hc N1.out)
        have hw := viewI_why hc N1.out
        clear hc
        have v_0 := V0.out.c0
        have v_1 := V0.out.c1
        have v_2 := V0.out.c2
        have v_3 := V0.out.c3
        have v_4 := V0.out.c4
        have v_5 := V0.out.c5
        have v_6 := V0.out.c6
        have v_7 := V0.out.c7
        have v_8 := V0.out.c8
        go_wp2_with fail
        refine (C.splitNo _ v (.slice xa m xc) page _ E1.out HZ.out.2 Z0.out hw).mono ?_
        rintro ev w4 ⟨sa, sb, rfl, ha, hb, hs⟩
        obtain ⟨ra, rc, ea, ec, rfl, -⟩ := ha.open
        obtain ⟨rb, rq, eb, eq, rfl, -⟩ := hb.open
        simp only [RecD.zero, Sc.zero, recVal, List.length_nil]
        clear v_0 v_1 v_2 v_3 v_4 v_5 v_6 v_7 v_8
        have L5 := Lib.hid (L4.out.below hs)
        have B5 := Lib.hid (B4.out.trans (hs.mono B4.out.size))
        have X3 := Lib.hid (X2.out.below hs)
        have E2 := Lib.hid (E1.out.below hs)
        have V1 := Lib.hid (V0.out.below hs)
        clear L4 B4 X2 E1 V0
        clear hs ha hb
        obtain ⟨yw, hyw⟩ : ∃ y, whyI v = y := ⟨_, rfl⟩
        rw [hyw]
        clear hyw hw
        obtain ⟨gw, hgw⟩ : ∃ W, W = (World.alloc (World.alloc w4 (.cells #[.int .i64 0, .string ⟨#[]⟩, .string ⟨#[]⟩, .bool false, .int .i64 0, .slice none 0 0, .slice none 0 0, .string ⟨#[]⟩, .string ⟨#[]⟩, .int .i64 0, .int .i64 0, .int .i64 0, .string ⟨#[]⟩, .int .i64 0, .int .i64 0] 39)) (.cells #[.int .i64 0, .string ⟨#[]⟩, .string ⟨#[]⟩, .bool false, .int .i64 0, .slice none 0 0, .slice none 0 0, .string ⟨#[]⟩, .string ⟨#[]⟩, .int .i64 0, .int .i64 0, .int .i64 0, .string ⟨#[]⟩, .int .i64 0, .int .i64 0] 39)) := ⟨_, rfl⟩
        have ga : Below w4.heap.size w4 gw := by rw [hgw]; exact (alloc2_below _ _ _)
        have gz0 : HB (w4.heap.size) (.cells #[.int .i64 0, .string ⟨#[]⟩, .string ⟨#[]⟩, .bool false, .int .i64 0, .slice none 0 0, .slice none 0 0, .string ⟨#[]⟩, .string ⟨#[]⟩, .int .i64 0, .int .i64 0, .int .i64 0, .string ⟨#[]⟩, .int .i64 0, .int .i64 0] 39) gw := by rw [hgw]; exact (HB.fst _ _ w4)
        have gz1 : HB (w4.heap.size + 1) (.cells #[.int .i64 0, .string ⟨#[]⟩, .string ⟨#[]⟩, .bool false, .int .i64 0, .slice none 0 0, .slice none 0 0, .string ⟨#[]⟩, .string ⟨#[]⟩, .int .i64 0, .int .i64 0, .int .i64 0, .string ⟨#[]⟩, .int .i64 0, .int .i64 0] 39) gw := by rw [hgw]; exact (HB.snd _ _ w4)
        have gb : Below w4.heap.size w4 (World.setCells gw (w4.heap.size) 0 (#[.int .i64 0, .string ⟨#[]⟩, .string ⟨#[]⟩, .bool false, .int .i64 0, .slice ra 0 rc, .slice ea 0 ec, .string ⟨#[]⟩, .string ⟨#[]⟩, .int .i64 0, .int .i64 0, .int .i64 0, .string ⟨#[]⟩, .int .i64 0, .int .i64 0] : Array Value).toList) := below_setCells (b := w4.heap.size) (by omega) (#[.int .i64 0, .string ⟨#[]⟩, .string ⟨#[]⟩, .bool false, .int .i64 0, .slice ra 0 rc, .slice ea 0 ec, .string ⟨#[]⟩, .string ⟨#[]⟩, .int .i64 0, .int .i64 0, .int .i64 0, .string ⟨#[]⟩, .int .i64 0, .int .i64 0] : Array Value).toList 0 _ ga
        have gy0 : HB (w4.heap.size) (.cells (#[.int .i64 0, .string ⟨#[]⟩, .string ⟨#[]⟩, .bool false, .int .i64 0, .slice ra 0 rc, .slice ea 0 ec, .string ⟨#[]⟩, .string ⟨#[]⟩, .int .i64 0, .int .i64 0, .int .i64 0, .string ⟨#[]⟩, .int .i64 0, .int .i64 0] : Array Value) 39) (World.setCells gw (w4.heap.size) 0 (#[.int .i64 0, .string ⟨#[]⟩, .string ⟨#[]⟩, .bool false, .int .i64 0, .slice ra 0 rc, .slice ea 0 ec, .string ⟨#[]⟩, .string ⟨#[]⟩, .int .i64 0, .int .i64 0, .int .i64 0, .string ⟨#[]⟩, .int .i64 0, .int .i64 0] : Array Value).toList) := gz0.sets (#[.int .i64 0, .string ⟨#[]⟩, .string ⟨#[]⟩, .bool false, .int .i64 0, .slice ra 0 rc, .slice ea 0 ec, .string ⟨#[]⟩, .string ⟨#[]⟩, .int .i64 0, .int .i64 0, .int .i64 0, .string ⟨#[]⟩, .int .i64 0, .int .i64 0] : Array Value).toList rfl
        have gx1 : HB (w4.heap.size + 1) (.cells #[.int .i64 0, .string ⟨#[]⟩, .string ⟨#[]⟩, .bool false, .int .i64 0, .slice none 0 0, .slice none 0 0, .string ⟨#[]⟩, .string ⟨#[]⟩, .int .i64 0, .int .i64 0, .int .i64 0, .string ⟨#[]⟩, .int .i64 0, .int .i64 0] 39) (World.setCells gw (w4.heap.size) 0 (#[.int .i64 0, .string ⟨#[]⟩, .string ⟨#[]⟩, .bool false, .int .i64 0, .slice ra 0 rc, .slice ea 0 ec, .string ⟨#[]⟩, .string ⟨#[]⟩, .int .i64 0, .int .i64 0, .int .i64 0, .string ⟨#[]⟩, .int .i64 0, .int .i64 0] : Array Value).toList) := gz1.off (b2 := w4.heap.size) (by omega) (#[.int .i64 0, .string ⟨#[]⟩, .string ⟨#[]⟩, .bool false, .int .i64 0, .slice ra 0 rc, .slice ea 0 ec, .string ⟨#[]⟩, .string ⟨#[]⟩, .int .i64 0, .int .i64 0, .int .i64 0, .string ⟨#[]⟩, .int .i64 0, .int .i64 0] : Array Value).toList 0
        have hs : Below w4.heap.size w4 (World.setCells (World.setCells gw (w4.heap.size) 0 (#[.int .i64 0, .string ⟨#[]⟩, .string ⟨#[]⟩, .bool false, .int .i64 0, .slice ra 0 rc, .slice ea 0 ec, .string ⟨#[]⟩, .string ⟨#[]⟩, .int .i64 0, .int .i64 0, .int .i64 0, .string ⟨#[]⟩, .int .i64 0, .int .i64 0] : Array Value).toList) (w4.heap.size + 1) 0 (#[.int .i64 0, .string ⟨#[]⟩, .string ⟨#[]⟩, .bool false, .int .i64 0, .slice rb 0 rq, .slice eb 0 eq, .string ⟨#[]⟩, .string ⟨#[]⟩, .int .i64 0, .int .i64 0, .int .i64 0, .string ⟨#[]⟩, .int .i64 0, .int .i64 0] : Array Value).toList) := below_setCells (b := w4.heap.size + 1) (by omega) (#[.int .i64 0, .string ⟨#[]⟩, .string ⟨#[]⟩, .bool false, .int .i64 0, .slice rb 0 rq, .slice eb 0 eq, .string ⟨#[]⟩, .string ⟨#[]⟩, .int .i64 0, .int .i64 0, .int .i64 0, .string ⟨#[]⟩, .int .i64 0, .int .i64 0] : Array Value).toList 0 _ gb
        have gu0 : HB (w4.heap.size) (.cells (#[.int .i64 0, .string ⟨#[]⟩, .string ⟨#[]⟩, .bool false, .int .i64 0, .slice ra 0 rc, .slice ea 0 ec, .string ⟨#[]⟩, .string ⟨#[]⟩, .int .i64 0, .int .i64 0, .int .i64 0, .string ⟨#[]⟩, .int .i64 0, .int .i64 0] : Array Value) 39) (World.setCells (World.setCells gw (w4.heap.size) 0 (#[.int .i64 0, .string ⟨#[]⟩, .string ⟨#[]⟩, .bool false, .int .i64 0, .slice ra 0 rc, .slice ea 0 ec, .string ⟨#[]⟩, .string ⟨#[]⟩, .int .i64 0, .int .i64 0, .int .i64 0, .string ⟨#[]⟩, .int .i64 0, .int .i64 0] : Array Value).toList) (w4.heap.size + 1) 0 (#[.int .i64 0, .string ⟨#[]⟩, .string ⟨#[]⟩, .bool false, .int .i64 0, .slice rb 0 rq, .slice eb 0 eq, .string ⟨#[]⟩, .string ⟨#[]⟩, .int .i64 0, .int .i64 0, .int .i64 0, .string ⟨#[]⟩, .int .i64 0, .int .i64 0] : Array Value).toList) := gy0.off (b2 := w4.heap.size + 1) (by omega) (#[.int .i64 0, .string ⟨#[]⟩, .string ⟨#[]⟩, .bool false, .int .i64 0, .slice rb 0 rq, .slice eb 0 eq, .string ⟨#[]⟩, .string ⟨#[]⟩, .int .i64 0, .int .i64 0, .int .i64 0, .string ⟨#[]⟩, .int .i64 0, .int .i64 0] : Array Value).toList 0
        have gu1 : HB (w4.heap.size + 1) (.cells (#[.int .i64 0, .string ⟨#[]⟩, .string ⟨#[]⟩, .bool false, .int .i64 0, .slice rb 0 rq, .slice eb 0 eq, .string ⟨#[]⟩, .string ⟨#[]⟩, .int .i64 0, .int .i64 0, .int .i64 0, .string ⟨#[]⟩, .int .i64 0, .int .i64 0] : Array Value) 39) (World.setCells (World.setCells gw (w4.heap.size) 0 (#[.int .i64 0, .string ⟨#[]⟩, .string ⟨#[]⟩, .bool false, .int .i64 0, .slice ra 0 rc, .slice ea 0 ec, .string ⟨#[]⟩, .string ⟨#[]⟩, .int .i64 0, .int .i64 0, .int .i64 0, .string ⟨#[]⟩, .int .i64 0, .int .i64 0] : Array Value).toList) (w4.heap.size + 1) 0 (#[.int .i64 0, .string ⟨#[]⟩, .string ⟨#[]⟩, .bool false, .int .i64 0, .slice rb 0 rq, .slice eb 0 eq, .string ⟨#[]⟩, .string ⟨#[]⟩, .int .i64 0, .int .i64 0, .int .i64 0, .string ⟨#[]⟩, .int .i64 0, .int .i64 0] : Array Value).toList) := gx1.sets (#[.int .i64 0, .string ⟨#[]⟩, .string ⟨#[]⟩, .bool false, .int .i64 0, .slice rb 0 rq, .slice eb 0 eq, .string ⟨#[]⟩, .string ⟨#[]⟩, .int .i64 0, .int .i64 0, .int .i64 0, .string ⟨#[]⟩, .int .i64 0, .int .i64 0] : Array Value).toList rfl
        have L6 := Lib.hid (L5.out.below hs)
        have B6 := Lib.hid (B5.out.trans (hs.mono B5.out.size))
        have X4 := Lib.hid (X3.out.below hs)
        have E3 := Lib.hid (E2.out.below hs)
        have V2 := Lib.hid (V1.out.below hs)
        clear L5 B5 X3 E2 V1
        clear ga gb gy0 gu0 gu1 gz1 hs
        go_wp2_with (first | (rw [← hgw]; refine wpList_store_mid rfl 39 (.tmp 9) (.tmp 41) rfl (w4.heap.size) 0 (#[.int .i64 0, .string ⟨#[]⟩, .string ⟨#[]⟩, .bool false, .int .i64 0, .slice ra 0 rc, .slice ea 0 ec, .string ⟨#[]⟩, .string ⟨#[]⟩, .int .i64 0, .int .i64 0, .int .i64 0, .string ⟨#[]⟩, .int .i64 0, .int .i64 0] : Array Value) rfl rfl ?_ recInfoS (by as_aux_lemma => kernel_rfl) ?_; exact gz0.there 15 (Nat.le_refl _); clear gz0) | (refine wpList_store_mid rfl 39 (.tmp 10) (.tmp 42) rfl (w4.heap.size + 1) 0 (#[.int .i64 0, .string ⟨#[]⟩, .string ⟨#[]⟩, .bool false, .int .i64 0, .slice rb 0 rq, .slice eb 0 eq, .string ⟨#[]⟩, .string ⟨#[]⟩, .int .i64 0, .int .i64 0, .int .i64 0, .string ⟨#[]⟩, .int .i64 0, .int .i64 0] : Array Value) rfl rfl ?_ recInfoS (by as_aux_lemma => kernel_rfl) ?_; exact gx1.there 15 (Nat.le_refl _); clear gx1; generalize hG : World.setCells (World.setCells _ _ _ _) _ _ _ = w5 at *; clear hG hgw))
        refine (awakeI C _).mono ?_
        rintro ev w6 ⟨rfl, hs⟩
        have L7 := Lib.hid (L6.out.below hs)
        have B7 := Lib.hid (B6.out.trans (hs.mono B6.out.size))
        have X5 := Lib.hid (X4.out.below hs)
        have E4 := Lib.hid (E3.out.below hs)
        have V3 := Lib.hid (V2.out.below hs)
        clear L6 B6 X4 E3 V2
        clear hs
        go_wp2
        go_ret
        exact ⟨rfl, B7.out⟩
    · go_wp2_with fail
      refine (awakeI C _).mono ?_
      rintro ev w2 ⟨rfl, hs⟩
      have L2 := Lib.hid (L1.out.below hs)
      have B2 := Lib.hid (B1.out.trans (hs.mono B1.out.size))
      clear L1 B1
      clear hs
      go_wp2
      go_ret
      exact ⟨rfl, B2.out⟩
end Go.Proofs.Ytkkmfacngmginaa
