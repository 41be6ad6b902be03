/- The walk of the law InnerTwice, out of package inner's contracts. -/
import Derived.Test.YtkkmfacngmginaaInRef
import Derived.Test.YtkkmfacngmginaaInLastB
namespace Go.Proofs.Ytkkmfacngmginaa
open Go.RowKit

theorem twice_math {l : List RecD} {v : IvD} (h : foldI l = some v) (hw : whyI v = 0) (left right : Int) (hlr : left ≠ right) : ∃ xv yv tv : IvD, foldI [leftR v right] = some xv ∧ foldI [rightR v] = some yv ∧ foldI [topR v left right] = some tv ∧ xv.right = right ∧ yv.right = v.right ∧ xv.ents ++ yv.ents = v.ents ∧
    ∀ k, (childI v k = none → childI tv k = none) ∧ ∀ c, childI v k = some c → ∃ f, childI tv k = some f ∧ (f.2 = right → childI yv k = some c) ∧ (f.2 ≠ right → childI xv k = some c) := by
  obtain ⟨-, h2⟩ := why_two hw
  have g := goodI_fold h
  have H : Halves v (v.ents.length / 2) (halfK v) := halves_of h2
  exact ⟨_, _, _, fold_base (half_left g H right), fold_base (half_right g H), fold_base (grow_top g H left right), rfl, rfl, List.take_append_drop _ _,
    fun k => grow_child g H left right hlr k _ _ _ ⟨rfl, rfl, rfl, rfl⟩ ⟨rfl, rfl, rfl, rfl⟩ ⟨rfl, rfl, rfl, rfl⟩⟩
set_option maxRecDepth 100000 in
set_option maxHeartbeats 16000000 in
theorem lawTwice (C : InC) (u : Value) (ds : List RcD) (left right : Int) (key : ByteArray) (w : World) (hv : ChW w u ds) (hk : key.size ≤ maxLen) :
    Calls Try.prog 4 #[u, .int .i64 left, .int .i64 right, .string key] w fun ev w' => ev = .returned (.bool true) ∧ Below w.heap.size w w' := by
  have hnot : ∀ (x : Bool) (w : World), (Op.unary .not (.bool x)).run Try.prog w = .ok (.bool (!x)) w := fun _ _ => rfl
  have HK := Lib.hid hk
  have L0 := Lib.hid hv
  have B0 := Lib.hid (Below.refl w.heap.size w)
  unfold maxLen at hk
  clear hv
  go_enter Try.func4, Try.ntmps4
  go_wp2_with fail
  refine (fewI_any u ds _ L0.out).mono ?_
  rintro ev w1 ⟨b, rfl, hok, hs⟩
  have L1 := Lib.hid (L0.out.below hs)
  have B1 := Lib.hid (B0.out.trans (hs.mono B0.out.size))
  clear L0 B0
  clear hs
  cases b with
  | false =>
    clear hok
    go_wp2_with fail
    refine (awakeI C _).mono ?_
    rintro ev w2 ⟨rfl, hs⟩
    have L2 := Lib.hid (L1.out.below hs)
    have B2 := Lib.hid (B1.out.trans (hs.mono B1.out.size))
    clear L1 B1
    clear hs
    go_wp2
    go_ret
    exact ⟨rfl, B2.out⟩
  | true =>
    have FW := Lib.hid (hok rfl)
    clear hok
    by_cases h100 : key.size ≤ 100
    · by_cases hlr : left = right
      · have elr : (left == right) = true := by rw [hlr]; simp
        clear hlr
        go_wp2_with fail
        refine (awakeI C _).mono ?_
        rintro ev w2 ⟨rfl, hs⟩
        have L2 := Lib.hid (L1.out.below hs)
        have B2 := Lib.hid (B1.out.trans (hs.mono B1.out.size))
        clear L1 B1
        clear hs
        go_wp2
        go_ret
        exact ⟨rfl, B2.out⟩
      · have elr : (left == right) = false := by rw [beq_eq_false_iff_ne]; exact hlr
        have LR := Lib.hid hlr
        clear hlr
        have SZ := Lib.hid B1.out.size
        go_wp2_with fail
        refine (ownI_any u ds _ L1.out (by have := FW.out.1; omega)).mono ?_
        rintro ev w2 ⟨x, dx, rfl, hx, hR1, hs⟩
        have L2 := Lib.hid (L1.out.below hs)
        have B2 := Lib.hid (B1.out.trans (hs.mono B1.out.size))
        clear L1 B1
        have X0 := Lib.hid (hx.mono SZ.out)
        clear hs hx SZ
        have R1 := Lib.hid hR1
        have R1L := Lib.hid (few_read FW.out hR1)
        clear hR1
        go_wp2_with fail
        refine (C.fold _ x dx _ X0.out (by have := R1L.out.1; omega) (by have := R1L.out.2; omega)).mono ?_
        rintro ev w3 ⟨en, rfl, hen, hsz, hs⟩
        rw [R1.out] at hen hsz
        rw [R1.out]
        have L3 := Lib.hid (L2.out.below hs)
        have B3 := Lib.hid (B2.out.trans (hs.mono B2.out.size))
        have X1 := Lib.hid (X0.out.below hs)
        clear L2 B2 X0
        have E0 := Lib.hid (hen)
        have Z0 := Lib.hid (hsz)
        clear hs hen hsz
        obtain ⟨v, hv⟩ : ∃ v, viewI (readC ds) = v := ⟨_, rfl⟩
        rw [hv] at E0 Z0
        rw [hv]
        obtain ⟨m, hm⟩ : ∃ m, v.ents.length = m := ⟨_, rfl⟩
        obtain ⟨xa, xc, rfl, -, -⟩ := E0.out.lenN hm
        have HM := Lib.hid hm
        have N1 := Lib.hid hv
        clear hv hm
        unfold ivVal
        by_cases hc : codeI (readC ds) = 0
        · have EBd := Lib.hid E0.out.bounds
          have W3 := Lib.hid B3.out.size
          rw [errV_zero hc]
          have HC := Lib.hid hc
          have HF := Lib.hid (viewI_some hc N1.out)
          have HG := Lib.hid (goodI_fold HF.out)
          have HL := Lib.hid (show v.ents.length ≤ 1000 from fold_lenI HF.out (by have := FW.out.2.1; have := FW.out.1; rw [totalI_read]; simp only [readC, List.length_map]; omega))
          clear hc
          have hs := alloc_below0 w3 (ivObj v (.slice xa m xc))
          have L4 := Lib.hid (L3.out.below hs)
          have B4 := Lib.hid (B3.out.trans (hs.mono B3.out.size))
          have X2 := Lib.hid (X1.out.below hs)
          have E1 := Lib.hid (E0.out.below hs)
          clear L3 B3 X1 E0
          have V0 := Lib.hid (VB.new v (.slice xa m xc) w3)
          have H0 := Lib.hid (HB.new (ivObj v (.slice xa m xc)) w3)
          clear hs
          unfold ivObj at L4 B4 X2 E1 V0 H0
          by_cases hw : whyI v = 0
          · have v_0 := V0.out.c0
            have v_1 := V0.out.c1
            have v_2 := V0.out.c2
            have v_3 := V0.out.c3
            have v_4 := V0.out.c4
            have v_5 := V0.out.c5
            have v_6 := V0.out.c6
            have v_7 := V0.out.c7
            have v_8 := V0.out.c8
            have TM := Lib.hid (twice_math HF.out hw left right LR.out)
            have HW0 := Lib.hid (why_two hw)
            have BW := Lib.hid B4.out.size
            go_wp2_with fail
            refine (C.grow _ v (.slice xa m xc) left right _ E1.out HL.out Z0.out hw).mono ?_
            rintro ev w4 ⟨qa, qb, qt, rfl, ha, hb, ht, hs⟩
            obtain ⟨ra, rc, ea, ec, rfl, hao⟩ := ha.open
            obtain ⟨rb, rq, eb, eq, rfl, hbo⟩ := hb.open
            obtain ⟨sa, sc, fa, fc, rfl, hto⟩ := ht.open
            clear v_0 v_1 v_2 v_3 v_4 v_5 v_6 v_7 v_8
            have L5 := Lib.hid (L4.out.below hs)
            have B5 := Lib.hid (B4.out.trans (hs.mono B4.out.size))
            have X3 := Lib.hid (X2.out.below hs)
            have E2 := Lib.hid (E1.out.below hs)
            have V1 := Lib.hid (V0.out.below hs)
            have H1 := Lib.hid (H0.out.below hs)
            clear L4 B4 X2 E1 V0 H0
            clear hs ha hb ht hw
            obtain ⟨kx, hkx⟩ : ∃ k, halfK v = k := ⟨_, rfl⟩
            have RV3 := Lib.hid (show leftR v right = baseI7 v.low (halfK v) false right (v.ents.take (v.ents.length / 2)) ∧ rightR v = baseI7 (halfK v) v.high v.unb v.right (v.ents.drop (v.ents.length / 2)) ∧ topR v left right = baseI7 v.low v.high v.unb v.right [(v.low, left), (halfK v, right)] from ⟨rfl, rfl, rfl⟩)
            obtain ⟨rt, hrt⟩ : ∃ l, v.ents.drop (v.ents.length / 2) = l := ⟨_, rfl⟩
            obtain ⟨lt, hlt⟩ : ∃ l, v.ents.take (v.ents.length / 2) = l := ⟨_, rfl⟩
            rw [hrt, hlt] at RV3
            rw [RV3.out.1] at hao TM ⊢
            rw [RV3.out.2.1] at hbo TM ⊢
            rw [RV3.out.2.2] at hto TM ⊢
            rw [hkx] at hao hbo hto TM ⊢
            have NL := Lib.hid (show rt.length ≤ 999 ∧ lt.length ≤ 1000 from by rw [← hrt, ← hlt, List.length_drop, List.length_take]; have := HL.out; have := HW0.out.2; omega)
            simp only [recVal, baseI7, Sc.zero, List.length_nil, List.length_cons, Nat.zero_add]
            have JA0 := Lib.hid (show RcO w.heap.size w4 (⟨(⟨7, v.low, kx, false, right, ⟨#[]⟩, ⟨#[]⟩, 0, 0, 0, ⟨#[]⟩, 0, 0⟩ : Sc), ra, rc, ea, ec, [], lt⟩ : RcD) from hao.mono BW.out)
            have JB0 := Lib.hid (show RcO w.heap.size w4 (⟨(⟨7, kx, v.high, v.unb, v.right, ⟨#[]⟩, ⟨#[]⟩, 0, 0, 0, ⟨#[]⟩, 0, 0⟩ : Sc), rb, rq, eb, eq, [], rt⟩ : RcD) from hbo.mono BW.out)
            have JT0 := Lib.hid (show RcO w.heap.size w4 (⟨(⟨7, v.low, v.high, v.unb, v.right, ⟨#[]⟩, ⟨#[]⟩, 0, 0, 0, ⟨#[]⟩, 0, 0⟩ : Sc), sa, sc, fa, fc, [], [(v.low, left), (kx, right)]⟩ : RcD) from hto.mono BW.out)
            clear hao hbo hto hkx hrt hlt
            obtain ⟨xv, yv, tv, hd1, hd2, hd3, hd4, hd5, hd6, hd7⟩ := TM.out
            have CA := Lib.hid (code_yes (l := [baseI7 v.low kx false right lt]) rfl hd1)
            have CB := Lib.hid (code_yes (l := [baseI7 kx v.high v.unb v.right rt]) rfl hd2)
            have CT := Lib.hid (code_yes (l := [baseI7 v.low v.high v.unb v.right [(v.low, left), (kx, right)]]) rfl hd3)
            have GA := Lib.hid (goodI_fold hd1)
            have GB := Lib.hid (goodI_fold hd2)
            have GT := Lib.hid (goodI_fold hd3)
            have P5 := Lib.hid (And.intro hd4 hd5)
            have PE := Lib.hid hd6
            have PC := Lib.hid hd7
            obtain ⟨m1, hm1⟩ : ∃ n, xv.ents.length = n := ⟨_, rfl⟩
            obtain ⟨m2, hm2⟩ : ∃ n, yv.ents.length = n := ⟨_, rfl⟩
            obtain ⟨m3, hm3⟩ : ∃ n, tv.ents.length = n := ⟨_, rfl⟩
            have HM1 := Lib.hid hm1
            have HM2 := Lib.hid hm2
            have HM3 := Lib.hid hm3
            have L23 := Lib.hid (show xv.ents.length ≤ 1000 ∧ yv.ents.length ≤ 1000 ∧ tv.ents.length ≤ 1000 from by have h := congrArg List.length hd6; rw [List.length_append] at h; have := HL.out; refine ⟨by omega, by omega, ?_⟩; exact fold_lenI hd3 (show totalI [baseI7 v.low v.high v.unb v.right [(v.low, left), (kx, right)]] + 1 ≤ 1000 by show (2 + 0) + 1 ≤ 1000; decide))
            clear hd1 hd2 hd3 hd4 hd5 hd6 hd7 hm1 hm2 hm3
            obtain ⟨gw, hgw⟩ : ∃ W, W = (World.alloc (World.alloc (World.alloc w4 (.cells #[.int .i64 0, .string ⟨#[]⟩, .string ⟨#[]⟩, .bool false, .int .i64 0, .slice none 0 0, .slice none 0 0, .string ⟨#[]⟩, .string ⟨#[]⟩, .int .i64 0, .int .i64 0, .int .i64 0, .string ⟨#[]⟩, .int .i64 0, .int .i64 0] 39)) (.cells #[.int .i64 0, .string ⟨#[]⟩, .string ⟨#[]⟩, .bool false, .int .i64 0, .slice none 0 0, .slice none 0 0, .string ⟨#[]⟩, .string ⟨#[]⟩, .int .i64 0, .int .i64 0, .int .i64 0, .string ⟨#[]⟩, .int .i64 0, .int .i64 0] 39)) (.cells #[.int .i64 0, .string ⟨#[]⟩, .string ⟨#[]⟩, .bool false, .int .i64 0, .slice none 0 0, .slice none 0 0, .string ⟨#[]⟩, .string ⟨#[]⟩, .int .i64 0, .int .i64 0, .int .i64 0, .string ⟨#[]⟩, .int .i64 0, .int .i64 0] 39)) := ⟨_, rfl⟩
            have gb : Below w4.heap.size w4 gw := by rw [hgw]; exact (alloc2_below w4 _ _).trans ((alloc_below0 _ _).mono (alloc2_below w4 _ _).size)
            have gz0 : HB (w4.heap.size) (.cells #[.int .i64 0, .string ⟨#[]⟩, .string ⟨#[]⟩, .bool false, .int .i64 0, .slice none 0 0, .slice none 0 0, .string ⟨#[]⟩, .string ⟨#[]⟩, .int .i64 0, .int .i64 0, .int .i64 0, .string ⟨#[]⟩, .int .i64 0, .int .i64 0] 39) gw := by rw [hgw]; exact (HB.fst _ _ w4).below (alloc_below0 _ _)
            have gz1 : HB (w4.heap.size + 1) (.cells #[.int .i64 0, .string ⟨#[]⟩, .string ⟨#[]⟩, .bool false, .int .i64 0, .slice none 0 0, .slice none 0 0, .string ⟨#[]⟩, .string ⟨#[]⟩, .int .i64 0, .int .i64 0, .int .i64 0, .string ⟨#[]⟩, .int .i64 0, .int .i64 0] 39) gw := by rw [hgw]; exact (HB.snd _ _ w4).below (alloc_below0 _ _)
            have gz2 : HB (w4.heap.size + 1 + 1) (.cells #[.int .i64 0, .string ⟨#[]⟩, .string ⟨#[]⟩, .bool false, .int .i64 0, .slice none 0 0, .slice none 0 0, .string ⟨#[]⟩, .string ⟨#[]⟩, .int .i64 0, .int .i64 0, .int .i64 0, .string ⟨#[]⟩, .int .i64 0, .int .i64 0] 39) gw := by rw [hgw, show w4.heap.size + 1 + 1 = (World.alloc (World.alloc w4 (.cells #[.int .i64 0, .string ⟨#[]⟩, .string ⟨#[]⟩, .bool false, .int .i64 0, .slice none 0 0, .slice none 0 0, .string ⟨#[]⟩, .string ⟨#[]⟩, .int .i64 0, .int .i64 0, .int .i64 0, .string ⟨#[]⟩, .int .i64 0, .int .i64 0] 39)) (.cells #[.int .i64 0, .string ⟨#[]⟩, .string ⟨#[]⟩, .bool false, .int .i64 0, .slice none 0 0, .slice none 0 0, .string ⟨#[]⟩, .string ⟨#[]⟩, .int .i64 0, .int .i64 0, .int .i64 0, .string ⟨#[]⟩, .int .i64 0, .int .i64 0] 39)).heap.size from by simp]; exact HB.new _ _
            have gb : Below w4.heap.size w4 (World.setCells gw (w4.heap.size) 0 (#[.int .i64 7, .string v.low, .string kx, .bool false, .int .i64 right, .slice ra 0 rc, .slice ea lt.length ec, .string ⟨#[]⟩, .string ⟨#[]⟩, .int .i64 0, .int .i64 0, .int .i64 0, .string ⟨#[]⟩, .int .i64 0, .int .i64 0] : Array Value).toList) := below_setCells (b := w4.heap.size) (by omega) (#[.int .i64 7, .string v.low, .string kx, .bool false, .int .i64 right, .slice ra 0 rc, .slice ea lt.length ec, .string ⟨#[]⟩, .string ⟨#[]⟩, .int .i64 0, .int .i64 0, .int .i64 0, .string ⟨#[]⟩, .int .i64 0, .int .i64 0] : Array Value).toList 0 _ gb
            have gy0 : HB (w4.heap.size) (.cells (#[.int .i64 7, .string v.low, .string kx, .bool false, .int .i64 right, .slice ra 0 rc, .slice ea lt.length ec, .string ⟨#[]⟩, .string ⟨#[]⟩, .int .i64 0, .int .i64 0, .int .i64 0, .string ⟨#[]⟩, .int .i64 0, .int .i64 0] : Array Value) 39) (World.setCells gw (w4.heap.size) 0 (#[.int .i64 7, .string v.low, .string kx, .bool false, .int .i64 right, .slice ra 0 rc, .slice ea lt.length ec, .string ⟨#[]⟩, .string ⟨#[]⟩, .int .i64 0, .int .i64 0, .int .i64 0, .string ⟨#[]⟩, .int .i64 0, .int .i64 0] : Array Value).toList) := gz0.sets (#[.int .i64 7, .string v.low, .string kx, .bool false, .int .i64 right, .slice ra 0 rc, .slice ea lt.length ec, .string ⟨#[]⟩, .string ⟨#[]⟩, .int .i64 0, .int .i64 0, .int .i64 0, .string ⟨#[]⟩, .int .i64 0, .int .i64 0] : Array Value).toList rfl
            have gx1_0 : HB (w4.heap.size + 1) (.cells #[.int .i64 0, .string ⟨#[]⟩, .string ⟨#[]⟩, .bool false, .int .i64 0, .slice none 0 0, .slice none 0 0, .string ⟨#[]⟩, .string ⟨#[]⟩, .int .i64 0, .int .i64 0, .int .i64 0, .string ⟨#[]⟩, .int .i64 0, .int .i64 0] 39) (World.setCells gw (w4.heap.size) 0 (#[.int .i64 7, .string v.low, .string kx, .bool false, .int .i64 right, .slice ra 0 rc, .slice ea lt.length ec, .string ⟨#[]⟩, .string ⟨#[]⟩, .int .i64 0, .int .i64 0, .int .i64 0, .string ⟨#[]⟩, .int .i64 0, .int .i64 0] : Array Value).toList) := gz1.off (b2 := w4.heap.size) (by omega) (#[.int .i64 7, .string v.low, .string kx, .bool false, .int .i64 right, .slice ra 0 rc, .slice ea lt.length ec, .string ⟨#[]⟩, .string ⟨#[]⟩, .int .i64 0, .int .i64 0, .int .i64 0, .string ⟨#[]⟩, .int .i64 0, .int .i64 0] : Array Value).toList 0
            have gz1 := gx1_0
            have gx2_0 : HB (w4.heap.size + 1 + 1) (.cells #[.int .i64 0, .string ⟨#[]⟩, .string ⟨#[]⟩, .bool false, .int .i64 0, .slice none 0 0, .slice none 0 0, .string ⟨#[]⟩, .string ⟨#[]⟩, .int .i64 0, .int .i64 0, .int .i64 0, .string ⟨#[]⟩, .int .i64 0, .int .i64 0] 39) (World.setCells gw (w4.heap.size) 0 (#[.int .i64 7, .string v.low, .string kx, .bool false, .int .i64 right, .slice ra 0 rc, .slice ea lt.length ec, .string ⟨#[]⟩, .string ⟨#[]⟩, .int .i64 0, .int .i64 0, .int .i64 0, .string ⟨#[]⟩, .int .i64 0, .int .i64 0] : Array Value).toList) := gz2.off (b2 := w4.heap.size) (by omega) (#[.int .i64 7, .string v.low, .string kx, .bool false, .int .i64 right, .slice ra 0 rc, .slice ea lt.length ec, .string ⟨#[]⟩, .string ⟨#[]⟩, .int .i64 0, .int .i64 0, .int .i64 0, .string ⟨#[]⟩, .int .i64 0, .int .i64 0] : Array Value).toList 0
            have gz2 := gx2_0
            have gb : Below w4.heap.size w4 (World.setCells (World.setCells gw (w4.heap.size) 0 (#[.int .i64 7, .string v.low, .string kx, .bool false, .int .i64 right, .slice ra 0 rc, .slice ea lt.length ec, .string ⟨#[]⟩, .string ⟨#[]⟩, .int .i64 0, .int .i64 0, .int .i64 0, .string ⟨#[]⟩, .int .i64 0, .int .i64 0] : Array Value).toList) (w4.heap.size + 1) 0 (#[.int .i64 7, .string kx, .string v.high, .bool v.unb, .int .i64 v.right, .slice rb 0 rq, .slice eb rt.length eq, .string ⟨#[]⟩, .string ⟨#[]⟩, .int .i64 0, .int .i64 0, .int .i64 0, .string ⟨#[]⟩, .int .i64 0, .int .i64 0] : Array Value).toList) := below_setCells (b := w4.heap.size + 1) (by omega) (#[.int .i64 7, .string kx, .string v.high, .bool v.unb, .int .i64 v.right, .slice rb 0 rq, .slice eb rt.length eq, .string ⟨#[]⟩, .string ⟨#[]⟩, .int .i64 0, .int .i64 0, .int .i64 0, .string ⟨#[]⟩, .int .i64 0, .int .i64 0] : Array Value).toList 0 _ gb
            have gy0 : HB (w4.heap.size) (.cells (#[.int .i64 7, .string v.low, .string kx, .bool false, .int .i64 right, .slice ra 0 rc, .slice ea lt.length ec, .string ⟨#[]⟩, .string ⟨#[]⟩, .int .i64 0, .int .i64 0, .int .i64 0, .string ⟨#[]⟩, .int .i64 0, .int .i64 0] : Array Value) 39) (World.setCells (World.setCells gw (w4.heap.size) 0 (#[.int .i64 7, .string v.low, .string kx, .bool false, .int .i64 right, .slice ra 0 rc, .slice ea lt.length ec, .string ⟨#[]⟩, .string ⟨#[]⟩, .int .i64 0, .int .i64 0, .int .i64 0, .string ⟨#[]⟩, .int .i64 0, .int .i64 0] : Array Value).toList) (w4.heap.size + 1) 0 (#[.int .i64 7, .string kx, .string v.high, .bool v.unb, .int .i64 v.right, .slice rb 0 rq, .slice eb rt.length eq, .string ⟨#[]⟩, .string ⟨#[]⟩, .int .i64 0, .int .i64 0, .int .i64 0, .string ⟨#[]⟩, .int .i64 0, .int .i64 0] : Array Value).toList) := gy0.off (b2 := w4.heap.size + 1) (by omega) (#[.int .i64 7, .string kx, .string v.high, .bool v.unb, .int .i64 v.right, .slice rb 0 rq, .slice eb rt.length eq, .string ⟨#[]⟩, .string ⟨#[]⟩, .int .i64 0, .int .i64 0, .int .i64 0, .string ⟨#[]⟩, .int .i64 0, .int .i64 0] : Array Value).toList 0
            have gy1 : HB (w4.heap.size + 1) (.cells (#[.int .i64 7, .string kx, .string v.high, .bool v.unb, .int .i64 v.right, .slice rb 0 rq, .slice eb rt.length eq, .string ⟨#[]⟩, .string ⟨#[]⟩, .int .i64 0, .int .i64 0, .int .i64 0, .string ⟨#[]⟩, .int .i64 0, .int .i64 0] : Array Value) 39) (World.setCells (World.setCells gw (w4.heap.size) 0 (#[.int .i64 7, .string v.low, .string kx, .bool false, .int .i64 right, .slice ra 0 rc, .slice ea lt.length ec, .string ⟨#[]⟩, .string ⟨#[]⟩, .int .i64 0, .int .i64 0, .int .i64 0, .string ⟨#[]⟩, .int .i64 0, .int .i64 0] : Array Value).toList) (w4.heap.size + 1) 0 (#[.int .i64 7, .string kx, .string v.high, .bool v.unb, .int .i64 v.right, .slice rb 0 rq, .slice eb rt.length eq, .string ⟨#[]⟩, .string ⟨#[]⟩, .int .i64 0, .int .i64 0, .int .i64 0, .string ⟨#[]⟩, .int .i64 0, .int .i64 0] : Array Value).toList) := gz1.sets (#[.int .i64 7, .string kx, .string v.high, .bool v.unb, .int .i64 v.right, .slice rb 0 rq, .slice eb rt.length eq, .string ⟨#[]⟩, .string ⟨#[]⟩, .int .i64 0, .int .i64 0, .int .i64 0, .string ⟨#[]⟩, .int .i64 0, .int .i64 0] : Array Value).toList rfl
            have gx2_1 : HB (w4.heap.size + 1 + 1) (.cells #[.int .i64 0, .string ⟨#[]⟩, .string ⟨#[]⟩, .bool false, .int .i64 0, .slice none 0 0, .slice none 0 0, .string ⟨#[]⟩, .string ⟨#[]⟩, .int .i64 0, .int .i64 0, .int .i64 0, .string ⟨#[]⟩, .int .i64 0, .int .i64 0] 39) (World.setCells (World.setCells gw (w4.heap.size) 0 (#[.int .i64 7, .string v.low, .string kx, .bool false, .int .i64 right, .slice ra 0 rc, .slice ea lt.length ec, .string ⟨#[]⟩, .string ⟨#[]⟩, .int .i64 0, .int .i64 0, .int .i64 0, .string ⟨#[]⟩, .int .i64 0, .int .i64 0] : Array Value).toList) (w4.heap.size + 1) 0 (#[.int .i64 7, .string kx, .string v.high, .bool v.unb, .int .i64 v.right, .slice rb 0 rq, .slice eb rt.length eq, .string ⟨#[]⟩, .string ⟨#[]⟩, .int .i64 0, .int .i64 0, .int .i64 0, .string ⟨#[]⟩, .int .i64 0, .int .i64 0] : Array Value).toList) := gx2_0.off (b2 := w4.heap.size + 1) (by omega) (#[.int .i64 7, .string kx, .string v.high, .bool v.unb, .int .i64 v.right, .slice rb 0 rq, .slice eb rt.length eq, .string ⟨#[]⟩, .string ⟨#[]⟩, .int .i64 0, .int .i64 0, .int .i64 0, .string ⟨#[]⟩, .int .i64 0, .int .i64 0] : Array Value).toList 0
            have gz2 := gx2_1
            have gb : Below w4.heap.size w4 (World.setCells (World.setCells (World.setCells gw (w4.heap.size) 0 (#[.int .i64 7, .string v.low, .string kx, .bool false, .int .i64 right, .slice ra 0 rc, .slice ea lt.length ec, .string ⟨#[]⟩, .string ⟨#[]⟩, .int .i64 0, .int .i64 0, .int .i64 0, .string ⟨#[]⟩, .int .i64 0, .int .i64 0] : Array Value).toList) (w4.heap.size + 1) 0 (#[.int .i64 7, .string kx, .string v.high, .bool v.unb, .int .i64 v.right, .slice rb 0 rq, .slice eb rt.length eq, .string ⟨#[]⟩, .string ⟨#[]⟩, .int .i64 0, .int .i64 0, .int .i64 0, .string ⟨#[]⟩, .int .i64 0, .int .i64 0] : Array Value).toList) (w4.heap.size + 1 + 1) 0 (#[.int .i64 7, .string v.low, .string v.high, .bool v.unb, .int .i64 v.right, .slice sa 0 sc, .slice fa 2 fc, .string ⟨#[]⟩, .string ⟨#[]⟩, .int .i64 0, .int .i64 0, .int .i64 0, .string ⟨#[]⟩, .int .i64 0, .int .i64 0] : Array Value).toList) := below_setCells (b := w4.heap.size + 1 + 1) (by omega) (#[.int .i64 7, .string v.low, .string v.high, .bool v.unb, .int .i64 v.right, .slice sa 0 sc, .slice fa 2 fc, .string ⟨#[]⟩, .string ⟨#[]⟩, .int .i64 0, .int .i64 0, .int .i64 0, .string ⟨#[]⟩, .int .i64 0, .int .i64 0] : Array Value).toList 0 _ gb
            have gy0 : HB (w4.heap.size) (.cells (#[.int .i64 7, .string v.low, .string kx, .bool false, .int .i64 right, .slice ra 0 rc, .slice ea lt.length ec, .string ⟨#[]⟩, .string ⟨#[]⟩, .int .i64 0, .int .i64 0, .int .i64 0, .string ⟨#[]⟩, .int .i64 0, .int .i64 0] : Array Value) 39) (World.setCells (World.setCells (World.setCells gw (w4.heap.size) 0 (#[.int .i64 7, .string v.low, .string kx, .bool false, .int .i64 right, .slice ra 0 rc, .slice ea lt.length ec, .string ⟨#[]⟩, .string ⟨#[]⟩, .int .i64 0, .int .i64 0, .int .i64 0, .string ⟨#[]⟩, .int .i64 0, .int .i64 0] : Array Value).toList) (w4.heap.size + 1) 0 (#[.int .i64 7, .string kx, .string v.high, .bool v.unb, .int .i64 v.right, .slice rb 0 rq, .slice eb rt.length eq, .string ⟨#[]⟩, .string ⟨#[]⟩, .int .i64 0, .int .i64 0, .int .i64 0, .string ⟨#[]⟩, .int .i64 0, .int .i64 0] : Array Value).toList) (w4.heap.size + 1 + 1) 0 (#[.int .i64 7, .string v.low, .string v.high, .bool v.unb, .int .i64 v.right, .slice sa 0 sc, .slice fa 2 fc, .string ⟨#[]⟩, .string ⟨#[]⟩, .int .i64 0, .int .i64 0, .int .i64 0, .string ⟨#[]⟩, .int .i64 0, .int .i64 0] : Array Value).toList) := gy0.off (b2 := w4.heap.size + 1 + 1) (by omega) (#[.int .i64 7, .string v.low, .string v.high, .bool v.unb, .int .i64 v.right, .slice sa 0 sc, .slice fa 2 fc, .string ⟨#[]⟩, .string ⟨#[]⟩, .int .i64 0, .int .i64 0, .int .i64 0, .string ⟨#[]⟩, .int .i64 0, .int .i64 0] : Array Value).toList 0
            have gy1 : HB (w4.heap.size + 1) (.cells (#[.int .i64 7, .string kx, .string v.high, .bool v.unb, .int .i64 v.right, .slice rb 0 rq, .slice eb rt.length eq, .string ⟨#[]⟩, .string ⟨#[]⟩, .int .i64 0, .int .i64 0, .int .i64 0, .string ⟨#[]⟩, .int .i64 0, .int .i64 0] : Array Value) 39) (World.setCells (World.setCells (World.setCells gw (w4.heap.size) 0 (#[.int .i64 7, .string v.low, .string kx, .bool false, .int .i64 right, .slice ra 0 rc, .slice ea lt.length ec, .string ⟨#[]⟩, .string ⟨#[]⟩, .int .i64 0, .int .i64 0, .int .i64 0, .string ⟨#[]⟩, .int .i64 0, .int .i64 0] : Array Value).toList) (w4.heap.size + 1) 0 (#[.int .i64 7, .string kx, .string v.high, .bool v.unb, .int .i64 v.right, .slice rb 0 rq, .slice eb rt.length eq, .string ⟨#[]⟩, .string ⟨#[]⟩, .int .i64 0, .int .i64 0, .int .i64 0, .string ⟨#[]⟩, .int .i64 0, .int .i64 0] : Array Value).toList) (w4.heap.size + 1 + 1) 0 (#[.int .i64 7, .string v.low, .string v.high, .bool v.unb, .int .i64 v.right, .slice sa 0 sc, .slice fa 2 fc, .string ⟨#[]⟩, .string ⟨#[]⟩, .int .i64 0, .int .i64 0, .int .i64 0, .string ⟨#[]⟩, .int .i64 0, .int .i64 0] : Array Value).toList) := gy1.off (b2 := w4.heap.size + 1 + 1) (by omega) (#[.int .i64 7, .string v.low, .string v.high, .bool v.unb, .int .i64 v.right, .slice sa 0 sc, .slice fa 2 fc, .string ⟨#[]⟩, .string ⟨#[]⟩, .int .i64 0, .int .i64 0, .int .i64 0, .string ⟨#[]⟩, .int .i64 0, .int .i64 0] : Array Value).toList 0
            have gy2 : HB (w4.heap.size + 1 + 1) (.cells (#[.int .i64 7, .string v.low, .string v.high, .bool v.unb, .int .i64 v.right, .slice sa 0 sc, .slice fa 2 fc, .string ⟨#[]⟩, .string ⟨#[]⟩, .int .i64 0, .int .i64 0, .int .i64 0, .string ⟨#[]⟩, .int .i64 0, .int .i64 0] : Array Value) 39) (World.setCells (World.setCells (World.setCells gw (w4.heap.size) 0 (#[.int .i64 7, .string v.low, .string kx, .bool false, .int .i64 right, .slice ra 0 rc, .slice ea lt.length ec, .string ⟨#[]⟩, .string ⟨#[]⟩, .int .i64 0, .int .i64 0, .int .i64 0, .string ⟨#[]⟩, .int .i64 0, .int .i64 0] : Array Value).toList) (w4.heap.size + 1) 0 (#[.int .i64 7, .string kx, .string v.high, .bool v.unb, .int .i64 v.right, .slice rb 0 rq, .slice eb rt.length eq, .string ⟨#[]⟩, .string ⟨#[]⟩, .int .i64 0, .int .i64 0, .int .i64 0, .string ⟨#[]⟩, .int .i64 0, .int .i64 0] : Array Value).toList) (w4.heap.size + 1 + 1) 0 (#[.int .i64 7, .string v.low, .string v.high, .bool v.unb, .int .i64 v.right, .slice sa 0 sc, .slice fa 2 fc, .string ⟨#[]⟩, .string ⟨#[]⟩, .int .i64 0, .int .i64 0, .int .i64 0, .string ⟨#[]⟩, .int .i64 0, .int .i64 0] : Array Value).toList) := gz2.sets (#[.int .i64 7, .string v.low, .string v.high, .bool v.unb, .int .i64 v.right, .slice sa 0 sc, .slice fa 2 fc, .string ⟨#[]⟩, .string ⟨#[]⟩, .int .i64 0, .int .i64 0, .int .i64 0, .string ⟨#[]⟩, .int .i64 0, .int .i64 0] : Array Value).toList rfl
            have hs := gb
            have L6 := Lib.hid (L5.out.below hs)
            have B6 := Lib.hid (B5.out.trans (hs.mono B5.out.size))
            have X4 := Lib.hid (X3.out.below hs)
            have E3 := Lib.hid (E2.out.below hs)
            have V2 := Lib.hid (V1.out.below hs)
            have H2 := Lib.hid (H1.out.below hs)
            have JA1 := Lib.hid (JA0.out.below hs)
            have JB1 := Lib.hid (JB0.out.below hs)
            have JT1 := Lib.hid (JT0.out.below hs)
            clear L5 B5 X3 E2 V1 H1 JA0 JB0 JT0
            clear gb
            have SA0 := Lib.hid (gy0)
            have SB0 := Lib.hid (gy1)
            have ST0 := Lib.hid (gy2)
            have b_0 := gy0.cell 0
            have b_1 := gy0.cell 1
            have b_2 := gy0.cell 2
            have b_3 := gy0.cell 3
            have b_4 := gy0.cell 4
            have b_5 := gy0.cell 5
            have b_6 := gy0.cell 6
            have b_7 := gy0.cell 7
            have b_8 := gy0.cell 8
            have b_9 := gy0.cell 9
            have b_10 := gy0.cell 10
            have b_11 := gy0.cell 11
            have b_12 := gy0.cell 12
            have b_13 := gy0.cell 13
            have b_14 := gy0.cell 14
            simp at b_0 b_1 b_2 b_3 b_4 b_5 b_6 b_7 b_8 b_9 b_10 b_11 b_12 b_13 b_14
            go_wp2_with (first | (rw [← hgw]; refine wpList_store_mid rfl 39 (.tmp 11) (.tmp 53) rfl (w4.heap.size) 0 (#[.int .i64 7, .string v.low, .string kx, .bool false, .int .i64 right, .slice ra 0 rc, .slice ea lt.length ec, .string ⟨#[]⟩, .string ⟨#[]⟩, .int .i64 0, .int .i64 0, .int .i64 0, .string ⟨#[]⟩, .int .i64 0, .int .i64 0] : Array Value) rfl rfl ?_ recInfoS (by kernel_rfl) ?_; exact gz0.there 15 (Nat.le_refl _)) | (refine wpList_store_mid rfl 39 (.tmp 12) (.tmp 54) rfl (w4.heap.size + 1) 0 (#[.int .i64 7, .string kx, .string v.high, .bool v.unb, .int .i64 v.right, .slice rb 0 rq, .slice eb rt.length eq, .string ⟨#[]⟩, .string ⟨#[]⟩, .int .i64 0, .int .i64 0, .int .i64 0, .string ⟨#[]⟩, .int .i64 0, .int .i64 0] : Array Value) rfl rfl ?_ recInfoS (by kernel_rfl) ?_; exact gx1_0.there 15 (Nat.le_refl _)) | (refine wpList_store_mid rfl 39 (.tmp 13) (.tmp 55) rfl (w4.heap.size + 1 + 1) 0 (#[.int .i64 7, .string v.low, .string v.high, .bool v.unb, .int .i64 v.right, .slice sa 0 sc, .slice fa 2 fc, .string ⟨#[]⟩, .string ⟨#[]⟩, .int .i64 0, .int .i64 0, .int .i64 0, .string ⟨#[]⟩, .int .i64 0, .int .i64 0] : Array Value) rfl rfl ?_ recInfoS (by kernel_rfl) ?_; exact gx2_1.there 15 (Nat.le_refl _); clear hs; generalize hG : World.setCells (World.setCells (World.setCells _ _ _ _) _ _ _) _ _ _ = w5 at *; clear hG))
            have hsz := B6.out.size
            have S7 := Lib.hid (show w.heap.size ≤ w5.heap.size from Nat.le_trans hsz (Nat.le_of_eq (show (w5).heap.size = w5.heap.size from rfl)))
            clear hsz
            have hs := alloc_below0 w5 (.cells #[.int .i64 7, .string v.low, .string kx, .bool false, .int .i64 right, .slice ra 0 rc, .slice ea lt.length ec, .string ⟨#[]⟩, .string ⟨#[]⟩, .int .i64 0, .int .i64 0, .int .i64 0, .string ⟨#[]⟩, .int .i64 0, .int .i64 0] 39)
            have L7 := Lib.hid (L6.out.below hs)
            have B7 := Lib.hid (B6.out.trans (hs.mono B6.out.size))
            have X5 := Lib.hid (X4.out.below hs)
            have E4 := Lib.hid (E3.out.below hs)
            have V3 := Lib.hid (V2.out.below hs)
            have H3 := Lib.hid (H2.out.below hs)
            have JA2 := Lib.hid (JA1.out.below hs)
            have JB2 := Lib.hid (JB1.out.below hs)
            have JT2 := Lib.hid (JT1.out.below hs)
            have SA1 := Lib.hid (SA0.out.below hs)
            have SB1 := Lib.hid (SB0.out.below hs)
            have ST1 := Lib.hid (ST0.out.below hs)
            clear L6 B6 X4 E3 V2 H2 JA1 JB1 JT1 SA0 SB0 ST0
            have P0 := Lib.hid (show ChO w.heap.size (World.alloc w5 (.cells #[.int .i64 7, .string v.low, .string kx, .bool false, .int .i64 right, .slice ra 0 rc, .slice ea lt.length ec, .string ⟨#[]⟩, .string ⟨#[]⟩, .int .i64 0, .int .i64 0, .int .i64 0, .string ⟨#[]⟩, .int .i64 0, .int .i64 0] 39)) (.slice (some ⟨w5.heap.size, 0, none⟩) 1 1) [(⟨(⟨7, v.low, kx, false, right, ⟨#[]⟩, ⟨#[]⟩, 0, 0, 0, ⟨#[]⟩, 0, 0⟩ : Sc), ra, rc, ea, ec, [], lt⟩ : RcD)] from ChO.of_rec (base := w.heap.size) S7.out (show HB (w5.heap.size) (.cells #[.int .i64 7, .string v.low, .string kx, .bool false, .int .i64 right, .slice ra 0 rc, .slice ea lt.length ec, .string ⟨#[]⟩, .string ⟨#[]⟩, .int .i64 0, .int .i64 0, .int .i64 0, .string ⟨#[]⟩, .int .i64 0, .int .i64 0] 39) (World.alloc w5 (.cells #[.int .i64 7, .string v.low, .string kx, .bool false, .int .i64 right, .slice ra 0 rc, .slice ea lt.length ec, .string ⟨#[]⟩, .string ⟨#[]⟩, .int .i64 0, .int .i64 0, .int .i64 0, .string ⟨#[]⟩, .int .i64 0, .int .i64 0] 39)) from HB.new _ _) JA2.out)
            clear hs S7
            refine (C.fold _ _ [(⟨(⟨7, v.low, kx, false, right, ⟨#[]⟩, ⟨#[]⟩, 0, 0, 0, ⟨#[]⟩, 0, 0⟩ : Sc), ra, rc, ea, ec, [], lt⟩ : RcD)] _ P0.out (show 1 ≤ 100 by decide) (show (lt.length + 0) ≤ 1000 from by have := NL.out; omega)).mono ?_
            rintro ev w6 ⟨en2, rfl, hen, hsz, hs⟩
            rw [show readC [(⟨(⟨7, v.low, kx, false, right, ⟨#[]⟩, ⟨#[]⟩, 0, 0, 0, ⟨#[]⟩, 0, 0⟩ : Sc), ra, rc, ea, ec, [], lt⟩ : RcD)] = [baseI7 v.low kx false right lt] from rfl, CA.out.2] at hen hsz
            rw [show readC [(⟨(⟨7, v.low, kx, false, right, ⟨#[]⟩, ⟨#[]⟩, 0, 0, 0, ⟨#[]⟩, 0, 0⟩ : Sc), ra, rc, ea, ec, [], lt⟩ : RcD)] = [baseI7 v.low kx false right lt] from rfl, CA.out.1, CA.out.2, errV_zero rfl]
            obtain ⟨za1, zc1, rfl, -, -⟩ := hen.lenN HM1.out
            clear b_0 b_1 b_2 b_3 b_4 b_5 b_6 b_7 b_8 b_9 b_10 b_11 b_12 b_13 b_14
            have L8 := Lib.hid (L7.out.below hs)
            have B8 := Lib.hid (B7.out.trans (hs.mono B7.out.size))
            have X6 := Lib.hid (X5.out.below hs)
            have E5 := Lib.hid (E4.out.below hs)
            have V4 := Lib.hid (V3.out.below hs)
            have H4 := Lib.hid (H3.out.below hs)
            have JA3 := Lib.hid (JA2.out.below hs)
            have JB3 := Lib.hid (JB2.out.below hs)
            have JT3 := Lib.hid (JT2.out.below hs)
            have SA2 := Lib.hid (SA1.out.below hs)
            have SB2 := Lib.hid (SB1.out.below hs)
            have ST2 := Lib.hid (ST1.out.below hs)
            have P1 := Lib.hid (P0.out.below hs)
            clear L7 B7 X5 E4 V3 H3 JA2 JB2 JT2 SA1 SB1 ST1 P0
            have FX0 := Lib.hid (hen)
            have YX0 := Lib.hid (hsz)
            clear hs hen hsz
            unfold ivVal
            have hs := alloc_below0 w6 (ivObj xv (.slice za1 m1 zc1))
            have L9 := Lib.hid (L8.out.below hs)
            have B9 := Lib.hid (B8.out.trans (hs.mono B8.out.size))
            have X7 := Lib.hid (X6.out.below hs)
            have E6 := Lib.hid (E5.out.below hs)
            have V5 := Lib.hid (V4.out.below hs)
            have H5 := Lib.hid (H4.out.below hs)
            have JA4 := Lib.hid (JA3.out.below hs)
            have JB4 := Lib.hid (JB3.out.below hs)
            have JT4 := Lib.hid (JT3.out.below hs)
            have SA3 := Lib.hid (SA2.out.below hs)
            have SB3 := Lib.hid (SB2.out.below hs)
            have ST3 := Lib.hid (ST2.out.below hs)
            have FX1 := Lib.hid (FX0.out.below hs)
            clear L8 B8 X6 E5 V4 H4 JA3 JB3 JT3 SA2 SB2 ST2 FX0
            have UX0 := Lib.hid (VB.new xv (.slice za1 m1 zc1) w6)
            clear hs
            unfold ivObj at L9 B9 X7 E6 V5 H5 JA4 JB4 JT4 SA3 SB3 ST3 FX1 UX0
            have hsz := B9.out.size
            have S7 := Lib.hid (show w.heap.size ≤ w6.heap.size + 1 from Nat.le_trans hsz (Nat.le_of_eq (show ((World.alloc w6 (ivObj xv (.slice za1 m1 zc1)))).heap.size = w6.heap.size + 1 from by simp)))
            clear hsz
            have b_0 := SB3.out.cell 0
            have b_1 := SB3.out.cell 1
            have b_2 := SB3.out.cell 2
            have b_3 := SB3.out.cell 3
            have b_4 := SB3.out.cell 4
            have b_5 := SB3.out.cell 5
            have b_6 := SB3.out.cell 6
            have b_7 := SB3.out.cell 7
            have b_8 := SB3.out.cell 8
            have b_9 := SB3.out.cell 9
            have b_10 := SB3.out.cell 10
            have b_11 := SB3.out.cell 11
            have b_12 := SB3.out.cell 12
            have b_13 := SB3.out.cell 13
            have b_14 := SB3.out.cell 14
            simp at b_0 b_1 b_2 b_3 b_4 b_5 b_6 b_7 b_8 b_9 b_10 b_11 b_12 b_13 b_14
            go_wp2_with fail
            have hs := alloc_below0 (World.alloc w6 (ivObj xv (.slice za1 m1 zc1))) (.cells #[.int .i64 7, .string kx, .string v.high, .bool v.unb, .int .i64 v.right, .slice rb 0 rq, .slice eb rt.length eq, .string ⟨#[]⟩, .string ⟨#[]⟩, .int .i64 0, .int .i64 0, .int .i64 0, .string ⟨#[]⟩, .int .i64 0, .int .i64 0] 39)
            have L10 := Lib.hid (L9.out.below hs)
            have B10 := Lib.hid (B9.out.trans (hs.mono B9.out.size))
            have X8 := Lib.hid (X7.out.below hs)
            have E7 := Lib.hid (E6.out.below hs)
            have V6 := Lib.hid (V5.out.below hs)
            have H6 := Lib.hid (H5.out.below hs)
            have JA5 := Lib.hid (JA4.out.below hs)
            have JB5 := Lib.hid (JB4.out.below hs)
            have JT5 := Lib.hid (JT4.out.below hs)
            have SA4 := Lib.hid (SA3.out.below hs)
            have SB4 := Lib.hid (SB3.out.below hs)
            have ST4 := Lib.hid (ST3.out.below hs)
            have FX2 := Lib.hid (FX1.out.below hs)
            have UX1 := Lib.hid (UX0.out.below hs)
            clear L9 B9 X7 E6 V5 H5 JA4 JB4 JT4 SA3 SB3 ST3 FX1 UX0
            have P0 := Lib.hid (show ChO w.heap.size (World.alloc (World.alloc w6 (ivObj xv (.slice za1 m1 zc1))) (.cells #[.int .i64 7, .string kx, .string v.high, .bool v.unb, .int .i64 v.right, .slice rb 0 rq, .slice eb rt.length eq, .string ⟨#[]⟩, .string ⟨#[]⟩, .int .i64 0, .int .i64 0, .int .i64 0, .string ⟨#[]⟩, .int .i64 0, .int .i64 0] 39)) (.slice (some ⟨w6.heap.size + 1, 0, none⟩) 1 1) [(⟨(⟨7, kx, v.high, v.unb, v.right, ⟨#[]⟩, ⟨#[]⟩, 0, 0, 0, ⟨#[]⟩, 0, 0⟩ : Sc), rb, rq, eb, eq, [], rt⟩ : RcD)] from ChO.of_rec (base := w.heap.size) S7.out (show HB (w6.heap.size + 1) (.cells #[.int .i64 7, .string kx, .string v.high, .bool v.unb, .int .i64 v.right, .slice rb 0 rq, .slice eb rt.length eq, .string ⟨#[]⟩, .string ⟨#[]⟩, .int .i64 0, .int .i64 0, .int .i64 0, .string ⟨#[]⟩, .int .i64 0, .int .i64 0] 39) (World.alloc (World.alloc w6 (ivObj xv (.slice za1 m1 zc1))) (.cells #[.int .i64 7, .string kx, .string v.high, .bool v.unb, .int .i64 v.right, .slice rb 0 rq, .slice eb rt.length eq, .string ⟨#[]⟩, .string ⟨#[]⟩, .int .i64 0, .int .i64 0, .int .i64 0, .string ⟨#[]⟩, .int .i64 0, .int .i64 0] 39)) from by rw [show w6.heap.size + 1 = ((World.alloc w6 (ivObj xv (.slice za1 m1 zc1)))).heap.size from by simp]; exact HB.new _ _) JB5.out)
            clear hs S7
            unfold ivObj at L10 B10 X8 E7 V6 H6 JA5 JB5 JT5 SA4 SB4 ST4 FX2 UX1 P0
            refine (C.fold _ _ [(⟨(⟨7, kx, v.high, v.unb, v.right, ⟨#[]⟩, ⟨#[]⟩, 0, 0, 0, ⟨#[]⟩, 0, 0⟩ : Sc), rb, rq, eb, eq, [], rt⟩ : RcD)] _ P0.out (show 1 ≤ 100 by decide) (show (rt.length + 0) ≤ 1000 from by have := NL.out; omega)).mono ?_
            rintro ev w7 ⟨en2, rfl, hen, hsz, hs⟩
            rw [show readC [(⟨(⟨7, kx, v.high, v.unb, v.right, ⟨#[]⟩, ⟨#[]⟩, 0, 0, 0, ⟨#[]⟩, 0, 0⟩ : Sc), rb, rq, eb, eq, [], rt⟩ : RcD)] = [baseI7 kx v.high v.unb v.right rt] from rfl, CB.out.2] at hen hsz
            rw [show readC [(⟨(⟨7, kx, v.high, v.unb, v.right, ⟨#[]⟩, ⟨#[]⟩, 0, 0, 0, ⟨#[]⟩, 0, 0⟩ : Sc), rb, rq, eb, eq, [], rt⟩ : RcD)] = [baseI7 kx v.high v.unb v.right rt] from rfl, CB.out.1, CB.out.2, errV_zero rfl]
            obtain ⟨za2, zc2, rfl, -, -⟩ := hen.lenN HM2.out
            clear b_0 b_1 b_2 b_3 b_4 b_5 b_6 b_7 b_8 b_9 b_10 b_11 b_12 b_13 b_14
            have L11 := Lib.hid (L10.out.below hs)
            have B11 := Lib.hid (B10.out.trans (hs.mono B10.out.size))
            have X9 := Lib.hid (X8.out.below hs)
            have E8 := Lib.hid (E7.out.below hs)
            have V7 := Lib.hid (V6.out.below hs)
            have H7 := Lib.hid (H6.out.below hs)
            have JA6 := Lib.hid (JA5.out.below hs)
            have JB6 := Lib.hid (JB5.out.below hs)
            have JT6 := Lib.hid (JT5.out.below hs)
            have SA5 := Lib.hid (SA4.out.below hs)
            have SB5 := Lib.hid (SB4.out.below hs)
            have ST5 := Lib.hid (ST4.out.below hs)
            have FX3 := Lib.hid (FX2.out.below hs)
            have UX2 := Lib.hid (UX1.out.below hs)
            have P1 := Lib.hid (P0.out.below hs)
            clear L10 B10 X8 E7 V6 H6 JA5 JB5 JT5 SA4 SB4 ST4 FX2 UX1 P0
            have FY0 := Lib.hid (hen)
            have YY0 := Lib.hid (hsz)
            clear hs hen hsz
            unfold ivVal
            have hs := alloc_below0 w7 (ivObj yv (.slice za2 m2 zc2))
            have L12 := Lib.hid (L11.out.below hs)
            have B12 := Lib.hid (B11.out.trans (hs.mono B11.out.size))
            have X10 := Lib.hid (X9.out.below hs)
            have E9 := Lib.hid (E8.out.below hs)
            have V8 := Lib.hid (V7.out.below hs)
            have H8 := Lib.hid (H7.out.below hs)
            have JA7 := Lib.hid (JA6.out.below hs)
            have JB7 := Lib.hid (JB6.out.below hs)
            have JT7 := Lib.hid (JT6.out.below hs)
            have SA6 := Lib.hid (SA5.out.below hs)
            have SB6 := Lib.hid (SB5.out.below hs)
            have ST6 := Lib.hid (ST5.out.below hs)
            have FX4 := Lib.hid (FX3.out.below hs)
            have UX3 := Lib.hid (UX2.out.below hs)
            have FY1 := Lib.hid (FY0.out.below hs)
            clear L11 B11 X9 E8 V7 H7 JA6 JB6 JT6 SA5 SB5 ST5 FX3 UX2 FY0
            have UY0 := Lib.hid (VB.new yv (.slice za2 m2 zc2) w7)
            clear hs
            unfold ivObj at L12 B12 X10 E9 V8 H8 JA7 JB7 JT7 SA6 SB6 ST6 FX4 UX3 FY1 UY0
            have hsz := B12.out.size
            have S7 := Lib.hid (show w.heap.size ≤ w7.heap.size + 1 from Nat.le_trans hsz (Nat.le_of_eq (show ((World.alloc w7 (ivObj yv (.slice za2 m2 zc2)))).heap.size = w7.heap.size + 1 from by simp)))
            clear hsz
            have b_0 := ST6.out.cell 0
            have b_1 := ST6.out.cell 1
            have b_2 := ST6.out.cell 2
            have b_3 := ST6.out.cell 3
            have b_4 := ST6.out.cell 4
            have b_5 := ST6.out.cell 5
            have b_6 := ST6.out.cell 6
            have b_7 := ST6.out.cell 7
            have b_8 := ST6.out.cell 8
            have b_9 := ST6.out.cell 9
            have b_10 := ST6.out.cell 10
            have b_11 := ST6.out.cell 11
            have b_12 := ST6.out.cell 12
            have b_13 := ST6.out.cell 13
            have b_14 := ST6.out.cell 14
            simp at b_0 b_1 b_2 b_3 b_4 b_5 b_6 b_7 b_8 b_9 b_10 b_11 b_12 b_13 b_14
            go_wp2_with fail
            have hs := alloc_below0 (World.alloc w7 (ivObj yv (.slice za2 m2 zc2))) (.cells #[.int .i64 7, .string v.low, .string v.high, .bool v.unb, .int .i64 v.right, .slice sa 0 sc, .slice fa 2 fc, .string ⟨#[]⟩, .string ⟨#[]⟩, .int .i64 0, .int .i64 0, .int .i64 0, .string ⟨#[]⟩, .int .i64 0, .int .i64 0] 39)
            have L13 := Lib.hid (L12.out.below hs)
            have B13 := Lib.hid (B12.out.trans (hs.mono B12.out.size))
            have X11 := Lib.hid (X10.out.below hs)
            have E10 := Lib.hid (E9.out.below hs)
            have V9 := Lib.hid (V8.out.below hs)
            have H9 := Lib.hid (H8.out.below hs)
            have JA8 := Lib.hid (JA7.out.below hs)
            have JB8 := Lib.hid (JB7.out.below hs)
            have JT8 := Lib.hid (JT7.out.below hs)
            have SA7 := Lib.hid (SA6.out.below hs)
            have SB7 := Lib.hid (SB6.out.below hs)
            have ST7 := Lib.hid (ST6.out.below hs)
            have FX5 := Lib.hid (FX4.out.below hs)
            have UX4 := Lib.hid (UX3.out.below hs)
            have FY2 := Lib.hid (FY1.out.below hs)
            have UY1 := Lib.hid (UY0.out.below hs)
            clear L12 B12 X10 E9 V8 H8 JA7 JB7 JT7 SA6 SB6 ST6 FX4 UX3 FY1 UY0
            have P0 := Lib.hid (show ChO w.heap.size (World.alloc (World.alloc w7 (ivObj yv (.slice za2 m2 zc2))) (.cells #[.int .i64 7, .string v.low, .string v.high, .bool v.unb, .int .i64 v.right, .slice sa 0 sc, .slice fa 2 fc, .string ⟨#[]⟩, .string ⟨#[]⟩, .int .i64 0, .int .i64 0, .int .i64 0, .string ⟨#[]⟩, .int .i64 0, .int .i64 0] 39)) (.slice (some ⟨w7.heap.size + 1, 0, none⟩) 1 1) [(⟨(⟨7, v.low, v.high, v.unb, v.right, ⟨#[]⟩, ⟨#[]⟩, 0, 0, 0, ⟨#[]⟩, 0, 0⟩ : Sc), sa, sc, fa, fc, [], [(v.low, left), (kx, right)]⟩ : RcD)] from ChO.of_rec (base := w.heap.size) S7.out (show HB (w7.heap.size + 1) (.cells #[.int .i64 7, .string v.low, .string v.high, .bool v.unb, .int .i64 v.right, .slice sa 0 sc, .slice fa 2 fc, .string ⟨#[]⟩, .string ⟨#[]⟩, .int .i64 0, .int .i64 0, .int .i64 0, .string ⟨#[]⟩, .int .i64 0, .int .i64 0] 39) (World.alloc (World.alloc w7 (ivObj yv (.slice za2 m2 zc2))) (.cells #[.int .i64 7, .string v.low, .string v.high, .bool v.unb, .int .i64 v.right, .slice sa 0 sc, .slice fa 2 fc, .string ⟨#[]⟩, .string ⟨#[]⟩, .int .i64 0, .int .i64 0, .int .i64 0, .string ⟨#[]⟩, .int .i64 0, .int .i64 0] 39)) from by rw [show w7.heap.size + 1 = ((World.alloc w7 (ivObj yv (.slice za2 m2 zc2)))).heap.size from by simp]; exact HB.new _ _) JT8.out)
            clear hs S7
            unfold ivObj at L13 B13 X11 E10 V9 H9 JA8 JB8 JT8 SA7 SB7 ST7 FX5 UX4 FY2 UY1 P0
            refine (C.fold _ _ [(⟨(⟨7, v.low, v.high, v.unb, v.right, ⟨#[]⟩, ⟨#[]⟩, 0, 0, 0, ⟨#[]⟩, 0, 0⟩ : Sc), sa, sc, fa, fc, [], [(v.low, left), (kx, right)]⟩ : RcD)] _ P0.out (show 1 ≤ 100 by decide) (show (2 + 0) ≤ 1000 from by have := NL.out; omega)).mono ?_
            rintro ev w8 ⟨en2, rfl, hen, hsz, hs⟩
            rw [show readC [(⟨(⟨7, v.low, v.high, v.unb, v.right, ⟨#[]⟩, ⟨#[]⟩, 0, 0, 0, ⟨#[]⟩, 0, 0⟩ : Sc), sa, sc, fa, fc, [], [(v.low, left), (kx, right)]⟩ : RcD)] = [baseI7 v.low v.high v.unb v.right [(v.low, left), (kx, right)]] from rfl, CT.out.2] at hen hsz
            rw [show readC [(⟨(⟨7, v.low, v.high, v.unb, v.right, ⟨#[]⟩, ⟨#[]⟩, 0, 0, 0, ⟨#[]⟩, 0, 0⟩ : Sc), sa, sc, fa, fc, [], [(v.low, left), (kx, right)]⟩ : RcD)] = [baseI7 v.low v.high v.unb v.right [(v.low, left), (kx, right)]] from rfl, CT.out.1, CT.out.2, errV_zero rfl]
            obtain ⟨za3, zc3, rfl, -, -⟩ := hen.lenN HM3.out
            clear b_0 b_1 b_2 b_3 b_4 b_5 b_6 b_7 b_8 b_9 b_10 b_11 b_12 b_13 b_14
            have L14 := Lib.hid (L13.out.below hs)
            have B14 := Lib.hid (B13.out.trans (hs.mono B13.out.size))
            have X12 := Lib.hid (X11.out.below hs)
            have E11 := Lib.hid (E10.out.below hs)
            have V10 := Lib.hid (V9.out.below hs)
            have H10 := Lib.hid (H9.out.below hs)
            have JA9 := Lib.hid (JA8.out.below hs)
            have JB9 := Lib.hid (JB8.out.below hs)
            have JT9 := Lib.hid (JT8.out.below hs)
            have SA8 := Lib.hid (SA7.out.below hs)
            have SB8 := Lib.hid (SB7.out.below hs)
            have ST8 := Lib.hid (ST7.out.below hs)
            have FX6 := Lib.hid (FX5.out.below hs)
            have UX5 := Lib.hid (UX4.out.below hs)
            have FY3 := Lib.hid (FY2.out.below hs)
            have UY2 := Lib.hid (UY1.out.below hs)
            have P1 := Lib.hid (P0.out.below hs)
            clear L13 B13 X11 E10 V9 H9 JA8 JB8 JT8 SA7 SB7 ST7 FX5 UX4 FY2 UY1 P0
            have FT0 := Lib.hid (hen)
            have YT0 := Lib.hid (hsz)
            clear hs hen hsz
            unfold ivVal
            have hs := alloc_below0 w8 (ivObj tv (.slice za3 m3 zc3))
            have L15 := Lib.hid (L14.out.below hs)
            have B15 := Lib.hid (B14.out.trans (hs.mono B14.out.size))
            have X13 := Lib.hid (X12.out.below hs)
            have E12 := Lib.hid (E11.out.below hs)
            have V11 := Lib.hid (V10.out.below hs)
            have H11 := Lib.hid (H10.out.below hs)
            have JA10 := Lib.hid (JA9.out.below hs)
            have JB10 := Lib.hid (JB9.out.below hs)
            have JT10 := Lib.hid (JT9.out.below hs)
            have SA9 := Lib.hid (SA8.out.below hs)
            have SB9 := Lib.hid (SB8.out.below hs)
            have ST9 := Lib.hid (ST8.out.below hs)
            have FX7 := Lib.hid (FX6.out.below hs)
            have UX6 := Lib.hid (UX5.out.below hs)
            have FY4 := Lib.hid (FY3.out.below hs)
            have UY3 := Lib.hid (UY2.out.below hs)
            have FT1 := Lib.hid (FT0.out.below hs)
            clear L14 B14 X12 E11 V10 H10 JA9 JB9 JT9 SA8 SB8 ST8 FX6 UX5 FY3 UY2 FT0
            have UT0 := Lib.hid (VB.new tv (.slice za3 m3 zc3) w8)
            clear hs
            unfold ivObj at L15 B15 X13 E12 V11 H11 JA10 JB10 JT10 SA9 SB9 ST9 FX7 UX6 FY4 UY3 FT1 UT0
            go_wp2_with fail
            generalize hw9 : World.alloc w8 _ = w9 at *
            clear hw9
            clear SA9
            clear SB9
            clear ST9
            clear JA10
            clear JB10
            clear JT10
            clear X13
            clear L15
            have HS9 := Lib.hid (show ∀ w', Below w9.heap.size w9 w' → (fun w' => w'.cell? ⟨w6.heap.size, 3, none⟩ = some (.int .i64 right) ∧ w'.cell? ⟨w6.heap.size, 4, none⟩ = some (.slice za1 m1 zc1) ∧ w'.cell? ⟨w7.heap.size, 3, none⟩ = some (.int .i64 v.right) ∧ w'.cell? ⟨w7.heap.size, 4, none⟩ = some (.slice za2 m2 zc2) ∧ w'.cell? ⟨w3.heap.size, 3, none⟩ = some (.int .i64 v.right) ∧ w'.cell? ⟨w3.heap.size, 4, none⟩ = some (.slice xa m xc)) w' from fun w' hs => ⟨((UX6.out.below hs).c3.trans (by rw [P5.out.1])), ((UX6.out.below hs).c4), ((UY3.out.below hs).c3.trans (by rw [P5.out.2])), ((UY3.out.below hs).c4), ((V11.out.below hs).c3), ((V11.out.below hs).c4)⟩)
            have BB := Lib.hid (Below.refl w9.heap.size w9).drew
            have FXq := Lib.hid (FX7.out.below (Below.refl _ _).drew)
            have FYq := Lib.hid (FY4.out.below (Below.refl _ _).drew)
            have EEq := Lib.hid (E12.out.below (Below.refl _ _).drew)
            refine anyH_region (fun w' => w'.cell? ⟨w6.heap.size, 3, none⟩ = some (.int .i64 right) ∧ w'.cell? ⟨w6.heap.size, 4, none⟩ = some (.slice za1 m1 zc1) ∧ w'.cell? ⟨w7.heap.size, 3, none⟩ = some (.int .i64 v.right) ∧ w'.cell? ⟨w7.heap.size, 4, none⟩ = some (.slice za2 m2 zc2) ∧ w'.cell? ⟨w3.heap.size, 3, none⟩ = some (.int .i64 v.right) ∧ w'.cell? ⟨w3.heap.size, 4, none⟩ = some (.slice xa m xc)) (by kernel_rfl) ?_
            obtain ⟨q0, hq0⟩ : ∃ W, W = World.drew w9 := ⟨_, rfl⟩
            rw [← hq0] at BB FXq FYq EEq ⊢
            clear hq0
            have SD := Lib.hid (HS9.out q0 BB.out)
            refine wpAnyH_take (i := 0) (oi := ⟨some 82, _, _, _, _, _⟩) (v := ?vn0) rfl (by as_aux_lemma => kernel_rfl) (by as_aux_lemma => kernel_rfl) (by as_aux_lemma => kernel_rfl) (fun _ _ _ h => h) (Or.inl ⟨by as_aux_lemma => rfl, ?hyn0⟩) SD.out ?restn0
            case hyn0 => (intro w hSw; go_simp; try (with_reducible rfl))
            simp only [Act.put, List.setIfInBounds_toArray, List.set_cons_zero, List.set_cons_succ]
            refine wpAnyH_take (i := 1) (oi := ⟨some 83, _, _, _, _, _⟩) (v := ?vn1) rfl (by as_aux_lemma => kernel_rfl) (by as_aux_lemma => kernel_rfl) (by as_aux_lemma => kernel_rfl) (fun _ _ _ h => h) (Or.inl ⟨by as_aux_lemma => rfl, ?hyn1⟩) SD.out ?restn1
            case hyn1 => (intro w hSw; go_simp; try (with_reducible rfl))
            simp only [Act.put, List.setIfInBounds_toArray, List.set_cons_zero, List.set_cons_succ]
            refine wpAnyH_take (i := 2) (oi := ⟨some 84, _, _, _, _, _⟩) (v := ?vn2) rfl (by as_aux_lemma => kernel_rfl) (by as_aux_lemma => kernel_rfl) (by as_aux_lemma => kernel_rfl) (fun _ _ _ h => h) (Or.inl ⟨by as_aux_lemma => rfl, ?hyn2⟩) SD.out ?restn2
            case hyn2 => (intro w hSw; go_simp; try (with_reducible rfl))
            simp only [Act.put, List.setIfInBounds_toArray, List.set_cons_zero, List.set_cons_succ]
            refine wpAnyH_take (i := 3) (oi := ⟨some 85, _, _, _, _, _⟩) (v := ?vn3) rfl (by as_aux_lemma => kernel_rfl) (by as_aux_lemma => kernel_rfl) (by as_aux_lemma => kernel_rfl) (fun _ _ _ h => h) (Or.inl ⟨by as_aux_lemma => rfl, ?hyn3⟩) SD.out ?restn3
            case hyn3 => (intro w hSw; go_simp; try (with_reducible rfl))
            simp only [Act.put, List.setIfInBounds_toArray, List.set_cons_zero, List.set_cons_succ]
            refine wpAnyH_take (i := 4) (oi := ⟨some 86, _, _, _, _, _⟩) (v := ?vn4) rfl (by as_aux_lemma => kernel_rfl) (by as_aux_lemma => kernel_rfl) (by as_aux_lemma => kernel_rfl) (fun _ _ _ h => h) (Or.inl ⟨by as_aux_lemma => rfl, ?hyn4⟩) SD.out ?restn4
            case hyn4 => (intro w hSw; go_simp; try (with_reducible rfl))
            simp only [Act.put, List.setIfInBounds_toArray, List.set_cons_zero, List.set_cons_succ]
            refine wpAnyH_take (i := 5) (oi := ⟨some 87, _, _, _, _, _⟩) (v := ?vn5) rfl (by as_aux_lemma => kernel_rfl) (by as_aux_lemma => kernel_rfl) (by as_aux_lemma => kernel_rfl) (fun _ _ _ h => h) (Or.inl ⟨by as_aux_lemma => rfl, ?hyn5⟩) SD.out ?restn5
            case hyn5 => (intro w hSw; go_simp; try (with_reducible rfl))
            simp only [Act.put, List.setIfInBounds_toArray, List.set_cons_zero, List.set_cons_succ]
            refine wpAnyH_take (i := 6) (oi := ⟨some 88, _, _, _, _, _⟩) (v := ?vn6) rfl (by as_aux_lemma => kernel_rfl) (by as_aux_lemma => kernel_rfl) (by as_aux_lemma => kernel_rfl) (fun _ _ _ h => h) (Or.inl ⟨by as_aux_lemma => rfl, ?hyn6⟩) SD.out ?restn6
            case hyn6 => (intro w hSw; go_simp; try (with_reducible rfl))
            simp only [Act.put, List.setIfInBounds_toArray, List.set_cons_zero, List.set_cons_succ]
            refine wpAnyH_take (i := 7) (oi := ⟨some 89, _, _, _, _, _⟩) (v := ?vn7) rfl (by as_aux_lemma => kernel_rfl) (by as_aux_lemma => kernel_rfl) (by as_aux_lemma => kernel_rfl) (fun _ _ _ h => h) (Or.inl ⟨by as_aux_lemma => rfl, ?hyn7⟩) SD.out ?restn7
            case hyn7 => (intro w hSw; go_simp; try (with_reducible rfl))
            simp only [Act.put, List.setIfInBounds_toArray, List.set_cons_zero, List.set_cons_succ]
            refine wpAnyH_take (i := 8) (oi := ⟨some 90, _, _, _, _, _⟩) (v := ?vn8) rfl (by as_aux_lemma => kernel_rfl) (by as_aux_lemma => kernel_rfl) (by as_aux_lemma => kernel_rfl) (fun _ _ _ h => h) (Or.inl ⟨by as_aux_lemma => rfl, ?hyn8⟩) SD.out ?restn8
            case hyn8 => (intro w hSw; go_simp; try (with_reducible rfl))
            simp only [Act.put, List.setIfInBounds_toArray, List.set_cons_zero, List.set_cons_succ]
            refine wpAnyH_take (i := 9) (oi := ⟨some 91, _, _, _, _, _⟩) (v := ?vn9) rfl (by as_aux_lemma => kernel_rfl) (by as_aux_lemma => kernel_rfl) (by as_aux_lemma => kernel_rfl) (fun _ _ _ h => h) (Or.inl ⟨by as_aux_lemma => rfl, ?hyn9⟩) SD.out ?restn9
            case hyn9 => (intro w hSw; go_simp; try (with_reducible rfl))
            simp only [Act.put, List.setIfInBounds_toArray, List.set_cons_zero, List.set_cons_succ]
            refine wpAnyH_take (i := 10) (oi := ⟨some 92, _, _, _, _, _⟩) (v := ?vn10) rfl (by as_aux_lemma => kernel_rfl) (by as_aux_lemma => kernel_rfl) (by as_aux_lemma => kernel_rfl) (fun _ _ _ h => h) (Or.inl ⟨by as_aux_lemma => rfl, ?hyn10⟩) SD.out ?restn10
            case hyn10 => (intro w hSw; go_simp; try (with_reducible rfl))
            simp only [Act.put, List.setIfInBounds_toArray, List.set_cons_zero, List.set_cons_succ]
            refine wpAnyH_take (i := 11) (oi := ⟨some 93, _, _, _, _, _⟩) (v := ?vn11) rfl (by as_aux_lemma => kernel_rfl) (by as_aux_lemma => kernel_rfl) (by as_aux_lemma => kernel_rfl) (fun _ _ _ h => h) (Or.inl ⟨by as_aux_lemma => rfl, ?hyn11⟩) SD.out ?restn11
            case hyn11 => (intro w hSw; go_simp; try (with_reducible rfl))
            simp only [Act.put, List.setIfInBounds_toArray, List.set_cons_zero, List.set_cons_succ]
            refine wpAnyH_take (i := 12) (oi := ⟨some 94, _, _, _, _, _⟩) (v := ?vn12) rfl (by as_aux_lemma => kernel_rfl) (by as_aux_lemma => kernel_rfl) (by as_aux_lemma => kernel_rfl) (fun _ _ _ h => h) (Or.inl ⟨by as_aux_lemma => rfl, ?hyn12⟩) SD.out ?restn12
            case hyn12 => (intro w hSw; go_simp; try (with_reducible rfl))
            simp only [Act.put, List.setIfInBounds_toArray, List.set_cons_zero, List.set_cons_succ]
            refine wpAnyH_take (i := 13) (oi := ⟨some 95, _, _, _, _, _⟩) (v := ?vn13) rfl (by as_aux_lemma => kernel_rfl) (by as_aux_lemma => kernel_rfl) (by as_aux_lemma => kernel_rfl) (fun _ _ _ h => h) (Or.inl ⟨by as_aux_lemma => rfl, ?hyn13⟩) SD.out ?restn13
            case hyn13 => (intro w hSw; go_simp; try (with_reducible rfl))
            simp only [Act.put, List.setIfInBounds_toArray, List.set_cons_zero, List.set_cons_succ]
            refine wpAnyH_take (i := 14) (oi := ⟨some 96, _, _, _, _, _⟩) (v := ?vn14) rfl (by as_aux_lemma => kernel_rfl) (by as_aux_lemma => kernel_rfl) (by as_aux_lemma => kernel_rfl) (fun _ _ _ h => h) (Or.inl ⟨by as_aux_lemma => rfl, ?hyn14⟩) SD.out ?restn14
            case hyn14 => (intro w hSw; go_simp; try (with_reducible rfl))
            simp only [Act.put, List.setIfInBounds_toArray, List.set_cons_zero, List.set_cons_succ]
            refine wpAnyH_take (i := 15) (oi := ⟨some 97, _, _, _, _, _⟩) (v := ?vn15) rfl (by as_aux_lemma => kernel_rfl) (by as_aux_lemma => kernel_rfl) (by as_aux_lemma => kernel_rfl) (fun _ _ _ h => h) (Or.inl ⟨by as_aux_lemma => rfl, ?hyn15⟩) SD.out ?restn15
            case hyn15 => (intro w hSw; go_simp; try (with_reducible rfl))
            simp only [Act.put, List.setIfInBounds_toArray, List.set_cons_zero, List.set_cons_succ]
            refine wpAnyH_take (i := 16) (oi := ⟨some 98, _, _, _, _, _⟩) (v := ?vn16) rfl (by as_aux_lemma => kernel_rfl) (by as_aux_lemma => kernel_rfl) (by as_aux_lemma => kernel_rfl) (fun _ _ _ h => h) (Or.inl ⟨by as_aux_lemma => rfl, ?hyn16⟩) SD.out ?restn16
            case hyn16 => (intro w hSw; go_simp; try (with_reducible rfl))
            simp only [Act.put, List.setIfInBounds_toArray, List.set_cons_zero, List.set_cons_succ]
            refine wpAnyH_take (i := 17) (oi := ⟨some 99, _, _, _, _, _⟩) (v := ?vn17) rfl (by as_aux_lemma => kernel_rfl) (by as_aux_lemma => kernel_rfl) (by as_aux_lemma => kernel_rfl) (fun _ _ _ h => h) (Or.inl ⟨by as_aux_lemma => rfl, ?hyn17⟩) SD.out ?restn17
            case hyn17 => (intro w hSw; go_simp; try (with_reducible rfl))
            simp only [Act.put, List.setIfInBounds_toArray, List.set_cons_zero, List.set_cons_succ]
            refine wpAnyH_take (i := 18) (oi := ⟨some 100, _, _, _, _, _⟩) (v := ?vn18) rfl (by as_aux_lemma => kernel_rfl) (by as_aux_lemma => kernel_rfl) (by as_aux_lemma => kernel_rfl) (fun _ _ _ h => h) (Or.inl ⟨by as_aux_lemma => rfl, ?hyn18⟩) SD.out ?restn18
            case hyn18 => (intro w hSw; go_simp; try (with_reducible rfl))
            simp only [Act.put, List.setIfInBounds_toArray, List.set_cons_zero, List.set_cons_succ]
            refine wpAnyH_take (i := 19) (oi := ⟨some 101, _, _, _, _, _⟩) (v := ?vn19) rfl (by as_aux_lemma => kernel_rfl) (by as_aux_lemma => kernel_rfl) (by as_aux_lemma => kernel_rfl) (fun _ _ _ h => h) (Or.inl ⟨by as_aux_lemma => rfl, ?hyn19⟩) SD.out ?restn19
            case hyn19 => (intro w hSw; go_simp; try (with_reducible rfl))
            simp only [Act.put, List.setIfInBounds_toArray, List.set_cons_zero, List.set_cons_succ]
            refine wpAnyH_take (i := 20) (oi := ⟨some 102, _, _, _, _, _⟩) (v := ?vn20) rfl (by as_aux_lemma => kernel_rfl) (by as_aux_lemma => kernel_rfl) (by as_aux_lemma => kernel_rfl) (fun _ _ _ h => h) (Or.inl ⟨by as_aux_lemma => rfl, ?hyn20⟩) SD.out ?restn20
            case hyn20 => (intro w hSw; go_simp; try (with_reducible rfl))
            simp only [Act.put, List.setIfInBounds_toArray, List.set_cons_zero, List.set_cons_succ]
            refine wpAnyH_take (i := 21) (oi := ⟨some 103, _, _, _, _, _⟩) (v := ?vn21) rfl (by as_aux_lemma => kernel_rfl) (by as_aux_lemma => kernel_rfl) (by as_aux_lemma => kernel_rfl) (fun _ _ _ h => h) (Or.inl ⟨by as_aux_lemma => rfl, ?hyn21⟩) SD.out ?restn21
            case hyn21 => (intro w hSw; go_simp; try (with_reducible rfl))
            simp only [Act.put, List.setIfInBounds_toArray, List.set_cons_zero, List.set_cons_succ]
            refine wpAnyH_take (i := 22) (oi := ⟨some 104, _, _, _, _, _⟩) (v := ?vn22) rfl (by as_aux_lemma => kernel_rfl) (by as_aux_lemma => kernel_rfl) (by as_aux_lemma => kernel_rfl) (fun _ _ _ h => h) (Or.inl ⟨by as_aux_lemma => rfl, ?hyn22⟩) SD.out ?restn22
            case hyn22 => (intro w hSw; go_simp; try (with_reducible rfl))
            simp only [Act.put, List.setIfInBounds_toArray, List.set_cons_zero, List.set_cons_succ]
            refine wpAnyH_take (i := 23) (oi := ⟨some 105, _, _, _, _, _⟩) (v := ?vn23) rfl (by as_aux_lemma => kernel_rfl) (by as_aux_lemma => kernel_rfl) (by as_aux_lemma => kernel_rfl) (fun _ _ _ h => h) (Or.inl ⟨by as_aux_lemma => rfl, ?hyn23⟩) SD.out ?restn23
            case hyn23 => (intro w hSw; go_simp; try (with_reducible rfl))
            simp only [Act.put, List.setIfInBounds_toArray, List.set_cons_zero, List.set_cons_succ]
            refine wpAnyH_take (i := 25) (oi := ⟨some 107, _, _, _, _, _⟩) (v := ?vn25) rfl (by as_aux_lemma => kernel_rfl) (by as_aux_lemma => kernel_rfl) (by as_aux_lemma => kernel_rfl) (fun _ _ _ h => h) (Or.inl ⟨by as_aux_lemma => rfl, ?hyn25⟩) SD.out ?restn25
            case hyn25 => (intro w hSw; go_simp; try (with_reducible rfl))
            simp only [Act.put, List.setIfInBounds_toArray, List.set_cons_zero, List.set_cons_succ]
            refine wpAnyH_take (i := 26) (oi := ⟨some 108, _, _, _, _, _⟩) (v := ?vn26) rfl (by as_aux_lemma => kernel_rfl) (by as_aux_lemma => kernel_rfl) (by as_aux_lemma => kernel_rfl) (fun _ _ _ h => h) (Or.inl ⟨by as_aux_lemma => rfl, ?hyn26⟩) SD.out ?restn26
            case hyn26 => (intro w hSw; go_simp; try (with_reducible rfl))
            simp only [Act.put, List.setIfInBounds_toArray, List.set_cons_zero, List.set_cons_succ]
            refine wpAnyH_take (i := 28) (oi := ⟨some 110, _, _, _, _, _⟩) (v := ?vn28) rfl (by as_aux_lemma => kernel_rfl) (by as_aux_lemma => kernel_rfl) (by as_aux_lemma => kernel_rfl) (fun _ _ _ h => h) (Or.inl ⟨by as_aux_lemma => rfl, ?hyn28⟩) SD.out ?restn28
            case hyn28 => (intro w hSw; go_simp; try (with_reducible rfl))
            simp only [Act.put, List.setIfInBounds_toArray, List.set_cons_zero, List.set_cons_succ]
            refine wpAnyH_take (i := 29) (oi := ⟨some 111, _, _, _, _, _⟩) (v := ?vn29) rfl (by as_aux_lemma => kernel_rfl) (by as_aux_lemma => kernel_rfl) (by as_aux_lemma => kernel_rfl) (fun _ _ _ h => h) (Or.inl ⟨by as_aux_lemma => rfl, ?hyn29⟩) SD.out ?restn29
            case hyn29 => (intro w hSw; go_simp; try (with_reducible rfl))
            simp only [Act.put, List.setIfInBounds_toArray, List.set_cons_zero, List.set_cons_succ]
            refine wpAnyH_take (i := 31) (oi := ⟨some 113, _, _, _, _, _⟩) (v := ?vn31) rfl (by as_aux_lemma => kernel_rfl) (by as_aux_lemma => kernel_rfl) (by as_aux_lemma => kernel_rfl) (fun _ _ _ h => h) (Or.inl ⟨by as_aux_lemma => rfl, ?hyn31⟩) SD.out ?restn31
            case hyn31 => (intro w hSw; go_simp; try (with_reducible rfl))
            simp only [Act.put, List.setIfInBounds_toArray, List.set_cons_zero, List.set_cons_succ]
            refine wpAnyH_take (i := 32) (oi := ⟨some 114, _, _, _, _, _⟩) (v := ?vn32) rfl (by as_aux_lemma => kernel_rfl) (by as_aux_lemma => kernel_rfl) (by as_aux_lemma => kernel_rfl) (fun _ _ _ h => h) (Or.inl ⟨by as_aux_lemma => rfl, ?hyn32⟩) SD.out ?restn32
            case hyn32 => (intro w hSw; go_simp; try (with_reducible rfl))
            simp only [Act.put, List.setIfInBounds_toArray, List.set_cons_zero, List.set_cons_succ]
            have X0q := Lib.hid FYq.out.bounds
            have EE0 := Lib.hid EEq.out.bounds
            have B0q := Lib.hid BB.out
            have hb := alloc_below0 q0 (.cells #[] 44)
            have O0 := Lib.hid (show OwnS lEnt q0.heap.size (q0.alloc (.cells #[] 44)) (.slice (some ⟨q0.heap.size, 0, none⟩) 0 0) [] from OwnS.lit lEnt q0.heap.size q0 q0.heap.size rfl [] (Nat.le_refl _) (by decide))
            have B1q := Lib.hid (BB.out.trans (hb.mono BB.out.size))
            have FXq := Lib.hid (FXq.out.below hb)
            have FYq := Lib.hid (FYq.out.below hb)
            have EEq := Lib.hid (EEq.out.below hb)
            have BQ := Lib.hid hb
            have SN := HS9.out _ B1q.out
            refine anyH_one (i := 24) (o := ⟨some 106, _, _, _, _, _⟩) (by as_aux_lemma => kernel_rfl) rfl (fun K hK => ?_)
            rw [if_pos (by as_aux_lemma => rfl)]
            go_simp
            refine hK.out _ _ SN ?_
            clear hK K SN hb
            generalize hG : World.alloc q0 _ = q1 at *
            clear hG
            try simp only [Act.put, List.setIfInBounds_toArray, List.set_cons_zero, List.set_cons_succ]
            refine anyH_one (i := 27) (o := ⟨some 109, _, _, _, _, _⟩) (by as_aux_lemma => kernel_rfl) rfl (fun K hK => ?_)
            rw [if_pos (by as_aux_lemma => rfl)]
            refine wp_appS lEnt 25 Try.underlying25 lEnt_known (by decide) (by decide) (.tmp 106) (.tmp 108) rfl q0.heap.size rfl rfl O0.out FXq.out.sv (by have := L23.out; simp; omega) BQ.out.size ?_
            intro vq2 q2 ho hg
            have BQ := Lib.hid (BQ.out.grown hg BQ.out.size (fun k hk => (World.ownsRow.lt O0.out k hk).1))
            have O1 := Lib.hid ho
            rw [List.nil_append] at O1
            have FYq := Lib.hid (FYq.out.kept (Kept.of_grown hg) (fun x m d hv hs => by have h1 := (O0.out.bounds x.block hs.symm).1; have h2 := (X0q.out x.block (by rw [hv]; rfl)).2; omega))
            have EEq := Lib.hid (EEq.out.kept (Kept.of_grown hg) (fun x m d hv hs => by have h1 := (O0.out.bounds x.block hs.symm).1; have h2 := (EE0.out x.block (by rw [hv]; rfl)).2; omega))
            have B2q := Lib.hid (B0q.out.trans (BQ.out.mono B0q.out.size))
            have SN := HS9.out _ B2q.out
            clear ho hg O0
            refine hK.out _ _ SN ?_
            clear hK K SN
            try simp only [Act.put, List.setIfInBounds_toArray, List.set_cons_zero, List.set_cons_succ]
            refine anyH_one (i := 30) (o := ⟨some 112, _, _, _, _, _⟩) (by as_aux_lemma => kernel_rfl) rfl (fun K hK => ?_)
            rw [if_pos (by as_aux_lemma => rfl)]
            refine wp_appS lEnt 25 Try.underlying25 lEnt_known (by decide) (by decide) (.tmp 109) (.tmp 111) rfl q0.heap.size rfl rfl O1.out FYq.out.sv (by have := L23.out; omega) BQ.out.size ?_
            intro vq3 q3 ho hg
            have BQ := Lib.hid (BQ.out.grown hg BQ.out.size (fun k hk => (World.ownsRow.lt O1.out k hk).1))
            have O2 := Lib.hid (show OwnS lEnt q0.heap.size q3 vq3 v.ents from by rw [← PE.out]; exact ho)
            have EEq := Lib.hid (EEq.out.kept (Kept.of_grown hg) (fun x m d hv hs => by have h1 := (O1.out.bounds x.block hs.symm).1; have h2 := (EE0.out x.block (by rw [hv]; rfl)).2; omega))
            have B3q := Lib.hid (B0q.out.trans (BQ.out.mono B0q.out.size))
            have SN := HS9.out _ B3q.out
            clear ho hg O1
            refine hK.out _ _ SN ?_
            clear hK K SN
            try simp only [Act.put, List.setIfInBounds_toArray, List.set_cons_zero, List.set_cons_succ]
            refine anyH_one (i := 33) (o := ⟨some 115, _, _, _, _, _⟩) (by as_aux_lemma => kernel_rfl) rfl (fun K hK => ?_)
            rw [if_pos (by as_aux_lemma => rfl)]
            go_simp
            refine (sameEnts_any _ _ v.ents q3 O2.out.sv EEq.out.sv).mono ?_
            rintro ev q4 ⟨rfl, hs⟩
            have B4q := Lib.hid (B3q.out.trans (hs.mono B3q.out.size))
            have SN := HS9.out _ B4q.out
            clear hs
            refine hK.out _ _ SN ?_
            clear hK K
            try simp only [Act.put, List.setIfInBounds_toArray, List.set_cons_zero, List.set_cons_succ]
            refine anyH_one (i := 34) (o := ⟨some 116, _, _, _, _, _⟩) (by as_aux_lemma => kernel_rfl) rfl (fun K hK => ?_)
            rw [if_pos (by as_aux_lemma => rfl)]
            go_simp
            refine hK.out _ _ SN ?_
            clear hK K
            try simp only [Act.put, List.setIfInBounds_toArray, List.set_cons_zero, List.set_cons_succ]
            refine anyH_one (i := 35) (o := ⟨some 117, _, _, _, _, _⟩) (by as_aux_lemma => kernel_rfl) rfl (fun K hK => ?_)
            rw [if_pos (by as_aux_lemma => rfl)]
            go_simp
            refine hK.out _ _ SN ?_
            clear hK K SN
            try simp only [Act.put, List.setIfInBounds_toArray, List.set_cons_zero, List.set_cons_succ]
            refine wpAnyH_done (by as_aux_lemma => kernel_rfl) ?_ _
            have hs := B4q.out
            have B16 := Lib.hid (B15.out.trans (hs.mono B15.out.size))
            have E13 := Lib.hid (E12.out.below hs)
            have V12 := Lib.hid (V11.out.below hs)
            have H12 := Lib.hid (H11.out.below hs)
            have FX8 := Lib.hid (FX7.out.below hs)
            have UX7 := Lib.hid (UX6.out.below hs)
            have FY5 := Lib.hid (FY4.out.below hs)
            have UY4 := Lib.hid (UY3.out.below hs)
            have FT2 := Lib.hid (FT1.out.below hs)
            have UT1 := Lib.hid (UT0.out.below hs)
            clear B15 E12 V11 H11 FX7 UX6 FY4 UY3 FT1 UT0
            clear hs HS9 BB FXq FYq EEq SD B0q B1q B2q B3q B4q BQ O2 X0q EE0
            obtain ⟨o1, ho1⟩ : ∃ o, childI v key = o := ⟨_, rfl⟩
            have O1 := Lib.hid ho1
            cases o1 with
            | none =>
              have KN := Lib.hid ((PC.out key).1 ho1)
              clear ho1
              have uv_0 := V12.out.c0
              have uv_1 := V12.out.c1
              have uv_2 := V12.out.c2
              have uv_3 := V12.out.c3
              have uv_4 := V12.out.c4
              have uv_5 := V12.out.c5
              have uv_6 := V12.out.c6
              have uv_7 := V12.out.c7
              have uv_8 := V12.out.c8
              go_wp2_with fail
              refine (C.child _ v (.slice xa m xc) key _ E13.out HG.out.ris HL.out Z0.out HK.out).mono ?_
              rintro ev w11 ⟨rfl, hs⟩
              rw [show childC v key = 2 by unfold childC; rw [O1.out]; rfl, errV_code (show (2 : Int) ≠ 0 by decide), O1.out]
              simp only [Option.getD_none]
              clear uv_0 uv_1 uv_2 uv_3 uv_4 uv_5 uv_6 uv_7 uv_8
              have B17 := Lib.hid (B16.out.trans (hs.mono B16.out.size))
              have E14 := Lib.hid (E13.out.below hs)
              have V13 := Lib.hid (V12.out.below hs)
              have H13 := Lib.hid (H12.out.below hs)
              have FX9 := Lib.hid (FX8.out.below hs)
              have UX8 := Lib.hid (UX7.out.below hs)
              have FY6 := Lib.hid (FY5.out.below hs)
              have UY5 := Lib.hid (UY4.out.below hs)
              have FT3 := Lib.hid (FT2.out.below hs)
              have UT2 := Lib.hid (UT1.out.below hs)
              clear B16 E13 V12 H12 FX8 UX7 FY5 UY4 FT2 UT1
              clear hs
              unfold entVal
              have hs := alloc_below0 w11 (entObj e0)
              have B18 := Lib.hid (B17.out.trans (hs.mono B17.out.size))
              have E15 := Lib.hid (E14.out.below hs)
              have V14 := Lib.hid (V13.out.below hs)
              have H14 := Lib.hid (H13.out.below hs)
              have FX10 := Lib.hid (FX9.out.below hs)
              have UX9 := Lib.hid (UX8.out.below hs)
              have FY7 := Lib.hid (FY6.out.below hs)
              have UY6 := Lib.hid (UY5.out.below hs)
              have FT4 := Lib.hid (FT3.out.below hs)
              have UT3 := Lib.hid (UT2.out.below hs)
              clear B17 E14 V13 H13 FX9 UX8 FY6 UY5 FT3 UT2
              clear hs
              unfold entObj at B18 E15 V14 H14 FX10 UX9 FY7 UY6 FT4 UT3
              have uut_0 := UT3.out.c0
              have uut_1 := UT3.out.c1
              have uut_2 := UT3.out.c2
              have uut_3 := UT3.out.c3
              have uut_4 := UT3.out.c4
              have uut_5 := UT3.out.c5
              have uut_6 := UT3.out.c6
              have uut_7 := UT3.out.c7
              have uut_8 := UT3.out.c8
              go_wp2_with fail
              refine (C.child _ tv (.slice za3 m3 zc3) key _ FT4.out GT.out.ris L23.out.2.2 YT0.out HK.out).mono ?_
              rintro ev w12 ⟨rfl, hs⟩
              rw [show childC tv key = 2 by unfold childC; rw [KN.out]; rfl, errV_code (show (2 : Int) ≠ 0 by decide), KN.out]
              simp only [Option.getD_none]
              clear uut_0 uut_1 uut_2 uut_3 uut_4 uut_5 uut_6 uut_7 uut_8
              have B19 := Lib.hid (B18.out.trans (hs.mono B18.out.size))
              have E16 := Lib.hid (E15.out.below hs)
              have V15 := Lib.hid (V14.out.below hs)
              have H15 := Lib.hid (H14.out.below hs)
              have FX11 := Lib.hid (FX10.out.below hs)
              have UX10 := Lib.hid (UX9.out.below hs)
              have FY8 := Lib.hid (FY7.out.below hs)
              have UY7 := Lib.hid (UY6.out.below hs)
              have FT5 := Lib.hid (FT4.out.below hs)
              have UT4 := Lib.hid (UT3.out.below hs)
              clear B18 E15 V14 H14 FX10 UX9 FY7 UY6 FT4 UT3
              clear hs
              unfold entVal
              have hs := alloc_below0 w12 (entObj e0)
              have B20 := Lib.hid (B19.out.trans (hs.mono B19.out.size))
              have E17 := Lib.hid (E16.out.below hs)
              have V16 := Lib.hid (V15.out.below hs)
              have H16 := Lib.hid (H15.out.below hs)
              have FX12 := Lib.hid (FX11.out.below hs)
              have UX11 := Lib.hid (UX10.out.below hs)
              have FY9 := Lib.hid (FY8.out.below hs)
              have UY8 := Lib.hid (UY7.out.below hs)
              have FT6 := Lib.hid (FT5.out.below hs)
              have UT5 := Lib.hid (UT4.out.below hs)
              clear B19 E16 V15 H15 FX11 UX10 FY8 UY7 FT5 UT4
              clear hs
              unfold entObj at B20 E17 V16 H16 FX12 UX11 FY9 UY8 FT6 UT5
              go_wp2_with fail
              refine (awakeI C _).mono ?_
              rintro ev w13 ⟨rfl, hs⟩
              have B21 := Lib.hid (B20.out.trans (hs.mono B20.out.size))
              have E18 := Lib.hid (E17.out.below hs)
              have V17 := Lib.hid (V16.out.below hs)
              have H17 := Lib.hid (H16.out.below hs)
              have FX13 := Lib.hid (FX12.out.below hs)
              have UX12 := Lib.hid (UX11.out.below hs)
              have FY10 := Lib.hid (FY9.out.below hs)
              have UY9 := Lib.hid (UY8.out.below hs)
              have FT7 := Lib.hid (FT6.out.below hs)
              have UT6 := Lib.hid (UT5.out.below hs)
              clear B20 E17 V16 H16 FX12 UX11 FY9 UY8 FT6 UT5
              clear hs
              go_wp2
              go_ret
              exact ⟨rfl, B21.out⟩
            | some c =>
              obtain ⟨f, hf1, hf2, hf3⟩ := (PC.out key).2 c ho1
              clear ho1
              have K1 := Lib.hid hf1
              have K2 := Lib.hid hf2
              have K3 := Lib.hid hf3
              clear hf1 hf2 hf3
              have uv_0 := V12.out.c0
              have uv_1 := V12.out.c1
              have uv_2 := V12.out.c2
              have uv_3 := V12.out.c3
              have uv_4 := V12.out.c4
              have uv_5 := V12.out.c5
              have uv_6 := V12.out.c6
              have uv_7 := V12.out.c7
              have uv_8 := V12.out.c8
              go_wp2_with fail
              refine (C.child _ v (.slice xa m xc) key _ E13.out HG.out.ris HL.out Z0.out HK.out).mono ?_
              rintro ev w11 ⟨rfl, hs⟩
              rw [show childC v key = 0 by unfold childC; rw [O1.out]; rfl, errV_zero rfl, O1.out]
              simp only [Option.getD_some]
              clear uv_0 uv_1 uv_2 uv_3 uv_4 uv_5 uv_6 uv_7 uv_8
              have B17 := Lib.hid (B16.out.trans (hs.mono B16.out.size))
              have E14 := Lib.hid (E13.out.below hs)
              have V13 := Lib.hid (V12.out.below hs)
              have H13 := Lib.hid (H12.out.below hs)
              have FX9 := Lib.hid (FX8.out.below hs)
              have UX8 := Lib.hid (UX7.out.below hs)
              have FY6 := Lib.hid (FY5.out.below hs)
              have UY5 := Lib.hid (UY4.out.below hs)
              have FT3 := Lib.hid (FT2.out.below hs)
              have UT2 := Lib.hid (UT1.out.below hs)
              clear B16 E13 V12 H12 FX8 UX7 FY5 UY4 FT2 UT1
              clear hs
              unfold entVal
              have hs := alloc_below0 w11 (entObj c)
              have B18 := Lib.hid (B17.out.trans (hs.mono B17.out.size))
              have E15 := Lib.hid (E14.out.below hs)
              have V14 := Lib.hid (V13.out.below hs)
              have H14 := Lib.hid (H13.out.below hs)
              have FX10 := Lib.hid (FX9.out.below hs)
              have UX9 := Lib.hid (UX8.out.below hs)
              have FY7 := Lib.hid (FY6.out.below hs)
              have UY6 := Lib.hid (UY5.out.below hs)
              have FT4 := Lib.hid (FT3.out.below hs)
              have UT3 := Lib.hid (UT2.out.below hs)
              clear B17 E14 V13 H13 FX9 UX8 FY6 UY5 FT3 UT2
              have X10 := Lib.hid (EB.new c w11)
              clear hs
              unfold entObj at B18 E15 V14 H14 FX10 UX9 FY7 UY6 FT4 UT3 X10
              have uut_0 := UT3.out.c0
              have uut_1 := UT3.out.c1
              have uut_2 := UT3.out.c2
              have uut_3 := UT3.out.c3
              have uut_4 := UT3.out.c4
              have uut_5 := UT3.out.c5
              have uut_6 := UT3.out.c6
              have uut_7 := UT3.out.c7
              have uut_8 := UT3.out.c8
              go_wp2_with fail
              refine (C.child _ tv (.slice za3 m3 zc3) key _ FT4.out GT.out.ris L23.out.2.2 YT0.out HK.out).mono ?_
              rintro ev w12 ⟨rfl, hs⟩
              rw [show childC tv key = 0 by unfold childC; rw [K1.out]; rfl, errV_zero rfl, K1.out]
              simp only [Option.getD_some]
              clear uut_0 uut_1 uut_2 uut_3 uut_4 uut_5 uut_6 uut_7 uut_8
              have B19 := Lib.hid (B18.out.trans (hs.mono B18.out.size))
              have E16 := Lib.hid (E15.out.below hs)
              have V15 := Lib.hid (V14.out.below hs)
              have H15 := Lib.hid (H14.out.below hs)
              have FX11 := Lib.hid (FX10.out.below hs)
              have UX10 := Lib.hid (UX9.out.below hs)
              have FY8 := Lib.hid (FY7.out.below hs)
              have UY7 := Lib.hid (UY6.out.below hs)
              have FT5 := Lib.hid (FT4.out.below hs)
              have UT4 := Lib.hid (UT3.out.below hs)
              have X11 := Lib.hid (X10.out.below hs)
              clear B18 E15 V14 H14 FX10 UX9 FY7 UY6 FT4 UT3 X10
              clear hs
              unfold entVal
              have hs := alloc_below0 w12 (entObj f)
              have B20 := Lib.hid (B19.out.trans (hs.mono B19.out.size))
              have E17 := Lib.hid (E16.out.below hs)
              have V16 := Lib.hid (V15.out.below hs)
              have H16 := Lib.hid (H15.out.below hs)
              have FX12 := Lib.hid (FX11.out.below hs)
              have UX11 := Lib.hid (UX10.out.below hs)
              have FY9 := Lib.hid (FY8.out.below hs)
              have UY8 := Lib.hid (UY7.out.below hs)
              have FT6 := Lib.hid (FT5.out.below hs)
              have UT5 := Lib.hid (UT4.out.below hs)
              have X12 := Lib.hid (X11.out.below hs)
              clear B19 E16 V15 H15 FX11 UX10 FY8 UY7 FT5 UT4 X11
              have X20 := Lib.hid (EB.new f w12)
              clear hs
              unfold entObj at B20 E17 V16 H16 FX12 UX11 FY9 UY8 FT6 UT5 X12 X20
              by_cases hfr : f.2 = right
              · have KQ := Lib.hid (K2.out hfr)
                have ef : (f.2 == right) = true := by rw [hfr]; simp
                clear hfr
                have p_0 := UX11.out.c0
                have p_1 := UX11.out.c1
                have p_2 := UX11.out.c2
                have p_3 := UX11.out.c3
                have p_4 := UX11.out.c4
                have p_5 := UX11.out.c5
                have p_6 := UX11.out.c6
                have p_7 := UX11.out.c7
                have p_8 := UX11.out.c8
                have q_0 := X20.out.c0
                have q_1 := X20.out.c1
                have hy := UY8.out.below (alloc_below0 (World.alloc w12 (entObj f)) (ivObj xv (.slice za1 m1 zc1)))
                have y_0 := hy.c0
                have y_1 := hy.c1
                have y_2 := hy.c2
                have y_3 := hy.c3
                have y_4 := hy.c4
                have y_5 := hy.c5
                have y_6 := hy.c6
                have y_7 := hy.c7
                have y_8 := hy.c8
                have hq := X20.out.below (alloc_below0 (World.alloc w12 (entObj f)) (ivObj xv (.slice za1 m1 zc1)))
                have z_0 := hq.c0
                have z_1 := hq.c1
                clear hy hq
                simp only [ivObj, entObj] at y_0 y_1 y_2 y_3 y_4 y_5 y_6 y_7 y_8 z_0 z_1
                obtain ⟨gw, hgw⟩ : ∃ W, W = World.alloc (World.alloc w12 (entObj f)) (ivObj xv (.slice za1 m1 zc1)) := ⟨_, rfl⟩
                have gb : Below (World.alloc w12 (entObj f)).heap.size (World.alloc w12 (entObj f)) gw := by rw [hgw]; exact alloc_below0 _ _
                have HN : HB (w12.heap.size + 1) (ivObj xv (.slice za1 m1 zc1)) gw := by rw [hgw, show w12.heap.size + 1 = (World.alloc w12 (entObj f)).heap.size from by simp]; exact HB.new _ _
                have gb : Below (World.alloc w12 (entObj f)).heap.size (World.alloc w12 (entObj f)) (World.setCells gw (w12.heap.size + 1) 0 (ivCells yv (.slice za2 m2 zc2)).toArray.toList) := below_setCells (b := (w12.heap.size + 1)) (by simp) (ivCells yv (.slice za2 m2 zc2)).toArray.toList 0 _ gb
                have US : HB (w12.heap.size + 1) (ivObj yv (.slice za2 m2 zc2)) (World.setCells gw (w12.heap.size + 1) 0 (ivCells yv (.slice za2 m2 zc2)).toArray.toList) := HB.sets (ivCells yv (.slice za2 m2 zc2)).toArray.toList HN rfl
                have hs := gb
                have B21 := Lib.hid (B20.out.trans (hs.mono B20.out.size))
                have E18 := Lib.hid (E17.out.below hs)
                have V17 := Lib.hid (V16.out.below hs)
                have H17 := Lib.hid (H16.out.below hs)
                have FX13 := Lib.hid (FX12.out.below hs)
                have UX12 := Lib.hid (UX11.out.below hs)
                have FY10 := Lib.hid (FY9.out.below hs)
                have UY9 := Lib.hid (UY8.out.below hs)
                have FT7 := Lib.hid (FT6.out.below hs)
                have UT6 := Lib.hid (UT5.out.below hs)
                have X13 := Lib.hid (X12.out.below hs)
                have X21 := Lib.hid (X20.out.below hs)
                clear B20 E17 V16 H16 FX12 UX11 FY9 UY8 FT6 UT5 X12 X20
                clear gb
                have UU0 := Lib.hid (HB.vb (v := yv) (en := .slice za2 m2 zc2) US)
                unfold ivObj entObj at hgw
                unfold ivObj at HN
                have o_0 := UU0.out.c0
                have o_1 := UU0.out.c1
                have o_2 := UU0.out.c2
                have o_3 := UU0.out.c3
                have o_4 := UU0.out.c4
                have o_5 := UU0.out.c5
                have o_6 := UU0.out.c6
                have o_7 := UU0.out.c7
                have o_8 := UU0.out.c8
                clear hs US
                go_wp2_with (rw [← hgw]; refine wpList_store_mid rfl 29 (.tmp 25) (.tmp 142) rfl (w12.heap.size + 1) 0 (ivCells yv (.slice za2 m2 zc2)).toArray rfl rfl ?_ ivInfoS (iv_one _ _ _ _) ?_; exact HN.there 9 (Nat.le_refl _); generalize hG : World.setCells gw _ _ _ = gx at *; clear hG)
                refine (C.child _ yv (.slice za2 m2 zc2) key _ FY10.out GB.out.ris L23.out.2.1 YY0.out HK.out).mono ?_
                rintro ev w13 ⟨rfl, hs⟩
                rw [show childC yv key = 0 by unfold childC; rw [KQ.out]; rfl, errV_zero rfl, KQ.out]
                simp only [Option.getD_some]
                clear p_0 p_1 p_2 p_3 p_4 p_5 p_6 p_7 p_8 q_0 q_1 y_0 y_1 y_2 y_3 y_4 y_5 y_6 y_7 y_8 z_0 z_1 o_0 o_1 o_2 o_3 o_4 o_5 o_6 o_7 o_8
                have B22 := Lib.hid (B21.out.trans (hs.mono B21.out.size))
                have E19 := Lib.hid (E18.out.below hs)
                have V18 := Lib.hid (V17.out.below hs)
                have H18 := Lib.hid (H17.out.below hs)
                have FX14 := Lib.hid (FX13.out.below hs)
                have UX13 := Lib.hid (UX12.out.below hs)
                have FY11 := Lib.hid (FY10.out.below hs)
                have UY10 := Lib.hid (UY9.out.below hs)
                have FT8 := Lib.hid (FT7.out.below hs)
                have UT7 := Lib.hid (UT6.out.below hs)
                have X14 := Lib.hid (X13.out.below hs)
                have X22 := Lib.hid (X21.out.below hs)
                have UU1 := Lib.hid (UU0.out.below hs)
                clear B21 E18 V17 H17 FX13 UX12 FY10 UY9 FT7 UT6 X13 X21 UU0
                clear hs
                unfold entVal
                have hs := alloc_below0 w13 (entObj c)
                have B23 := Lib.hid (B22.out.trans (hs.mono B22.out.size))
                have E20 := Lib.hid (E19.out.below hs)
                have V19 := Lib.hid (V18.out.below hs)
                have H19 := Lib.hid (H18.out.below hs)
                have FX15 := Lib.hid (FX14.out.below hs)
                have UX14 := Lib.hid (UX13.out.below hs)
                have FY12 := Lib.hid (FY11.out.below hs)
                have UY11 := Lib.hid (UY10.out.below hs)
                have FT9 := Lib.hid (FT8.out.below hs)
                have UT8 := Lib.hid (UT7.out.below hs)
                have X15 := Lib.hid (X14.out.below hs)
                have X23 := Lib.hid (X22.out.below hs)
                have UU2 := Lib.hid (UU1.out.below hs)
                clear B22 E19 V18 H18 FX14 UX13 FY11 UY10 FT8 UT7 X14 X22 UU1
                have X30 := Lib.hid (EB.new c w13)
                clear hs
                unfold entObj at B23 E20 V19 H19 FX15 UX14 FY12 UY11 FT9 UT8 X15 X23 UU2 X30
                have a_0 := X15.out.c0
                have a_1 := X15.out.c1
                have b_0 := X30.out.c0
                have b_1 := X30.out.c1
                have k1 : (c.1.toList == c.1.toList) = true := by simp
                have k2 : (c.2 == c.2) = true := by simp
                go_wp2_with fail
                refine (awakeI C _).mono ?_
                rintro ev w14 ⟨rfl, hs⟩
                clear a_0 a_1 b_0 b_1 k1 k2
                have B24 := Lib.hid (B23.out.trans (hs.mono B23.out.size))
                have E21 := Lib.hid (E20.out.below hs)
                have V20 := Lib.hid (V19.out.below hs)
                have H20 := Lib.hid (H19.out.below hs)
                have FX16 := Lib.hid (FX15.out.below hs)
                have UX15 := Lib.hid (UX14.out.below hs)
                have FY13 := Lib.hid (FY12.out.below hs)
                have UY12 := Lib.hid (UY11.out.below hs)
                have FT10 := Lib.hid (FT9.out.below hs)
                have UT9 := Lib.hid (UT8.out.below hs)
                have X16 := Lib.hid (X15.out.below hs)
                have X24 := Lib.hid (X23.out.below hs)
                have UU3 := Lib.hid (UU2.out.below hs)
                have X31 := Lib.hid (X30.out.below hs)
                clear B23 E20 V19 H19 FX15 UX14 FY12 UY11 FT9 UT8 X15 X23 UU2 X30
                clear hs
                go_wp2
                go_ret
                exact ⟨rfl, B24.out⟩
              · have KQ := Lib.hid (K3.out hfr)
                have ef : (f.2 == right) = false := by rw [beq_eq_false_iff_ne]; exact hfr
                clear hfr
                have p_0 := UX11.out.c0
                have p_1 := UX11.out.c1
                have p_2 := UX11.out.c2
                have p_3 := UX11.out.c3
                have p_4 := UX11.out.c4
                have p_5 := UX11.out.c5
                have p_6 := UX11.out.c6
                have p_7 := UX11.out.c7
                have p_8 := UX11.out.c8
                have q_0 := X20.out.c0
                have q_1 := X20.out.c1
                have hs := alloc_below0 (World.alloc w12 (entObj f)) (ivObj xv (.slice za1 m1 zc1))
                have B21 := Lib.hid (B20.out.trans (hs.mono B20.out.size))
                have E18 := Lib.hid (E17.out.below hs)
                have V17 := Lib.hid (V16.out.below hs)
                have H17 := Lib.hid (H16.out.below hs)
                have FX13 := Lib.hid (FX12.out.below hs)
                have UX12 := Lib.hid (UX11.out.below hs)
                have FY10 := Lib.hid (FY9.out.below hs)
                have UY9 := Lib.hid (UY8.out.below hs)
                have FT7 := Lib.hid (FT6.out.below hs)
                have UT6 := Lib.hid (UT5.out.below hs)
                have X13 := Lib.hid (X12.out.below hs)
                have X21 := Lib.hid (X20.out.below hs)
                clear B20 E17 V16 H16 FX12 UX11 FY9 UY8 FT6 UT5 X12 X20
                have UU0 := Lib.hid (show VB (w12.heap.size + 1) xv (.slice za1 m1 zc1) (World.alloc (World.alloc w12 (entObj f)) (ivObj xv (.slice za1 m1 zc1))) from by rw [show w12.heap.size + 1 = (World.alloc w12 (entObj f)).heap.size from by simp]; exact VB.new _ _ _)
                clear hs
                unfold ivObj entObj at B21 E18 V17 H17 FX13 UX12 FY10 UY9 FT7 UT6 X13 X21 UU0
                have o_0 := UU0.out.c0
                have o_1 := UU0.out.c1
                have o_2 := UU0.out.c2
                have o_3 := UU0.out.c3
                have o_4 := UU0.out.c4
                have o_5 := UU0.out.c5
                have o_6 := UU0.out.c6
                have o_7 := UU0.out.c7
                have o_8 := UU0.out.c8
                have q2_1 := X21.out.c1
                go_wp2_with fail
                refine (C.child _ xv (.slice za1 m1 zc1) key _ FX13.out GA.out.ris L23.out.1 YX0.out HK.out).mono ?_
                rintro ev w13 ⟨rfl, hs⟩
                rw [show childC xv key = 0 by unfold childC; rw [KQ.out]; rfl, errV_zero rfl, KQ.out]
                simp only [Option.getD_some]
                clear p_0 p_1 p_2 p_3 p_4 p_5 p_6 p_7 p_8 q_0 q_1 o_0 o_1 o_2 o_3 o_4 o_5 o_6 o_7 o_8 q2_1
                have B22 := Lib.hid (B21.out.trans (hs.mono B21.out.size))
                have E19 := Lib.hid (E18.out.below hs)
                have V18 := Lib.hid (V17.out.below hs)
                have H18 := Lib.hid (H17.out.below hs)
                have FX14 := Lib.hid (FX13.out.below hs)
                have UX13 := Lib.hid (UX12.out.below hs)
                have FY11 := Lib.hid (FY10.out.below hs)
                have UY10 := Lib.hid (UY9.out.below hs)
                have FT8 := Lib.hid (FT7.out.below hs)
                have UT7 := Lib.hid (UT6.out.below hs)
                have X14 := Lib.hid (X13.out.below hs)
                have X22 := Lib.hid (X21.out.below hs)
                have UU1 := Lib.hid (UU0.out.below hs)
                clear B21 E18 V17 H17 FX13 UX12 FY10 UY9 FT7 UT6 X13 X21 UU0
                clear hs
                unfold entVal
                have hs := alloc_below0 w13 (entObj c)
                have B23 := Lib.hid (B22.out.trans (hs.mono B22.out.size))
                have E20 := Lib.hid (E19.out.below hs)
                have V19 := Lib.hid (V18.out.below hs)
                have H19 := Lib.hid (H18.out.below hs)
                have FX15 := Lib.hid (FX14.out.below hs)
                have UX14 := Lib.hid (UX13.out.below hs)
                have FY12 := Lib.hid (FY11.out.below hs)
                have UY11 := Lib.hid (UY10.out.below hs)
                have FT9 := Lib.hid (FT8.out.below hs)
                have UT8 := Lib.hid (UT7.out.below hs)
                have X15 := Lib.hid (X14.out.below hs)
                have X23 := Lib.hid (X22.out.below hs)
                have UU2 := Lib.hid (UU1.out.below hs)
                clear B22 E19 V18 H18 FX14 UX13 FY11 UY10 FT8 UT7 X14 X22 UU1
                have X30 := Lib.hid (EB.new c w13)
                clear hs
                unfold entObj at B23 E20 V19 H19 FX15 UX14 FY12 UY11 FT9 UT8 X15 X23 UU2 X30
                have a_0 := X15.out.c0
                have a_1 := X15.out.c1
                have b_0 := X30.out.c0
                have b_1 := X30.out.c1
                have k1 : (c.1.toList == c.1.toList) = true := by simp
                have k2 : (c.2 == c.2) = true := by simp
                go_wp2_with fail
                refine (awakeI C _).mono ?_
                rintro ev w14 ⟨rfl, hs⟩
                clear a_0 a_1 b_0 b_1 k1 k2
                have B24 := Lib.hid (B23.out.trans (hs.mono B23.out.size))
                have E21 := Lib.hid (E20.out.below hs)
                have V20 := Lib.hid (V19.out.below hs)
                have H20 := Lib.hid (H19.out.below hs)
                have FX16 := Lib.hid (FX15.out.below hs)
                have UX15 := Lib.hid (UX14.out.below hs)
                have FY13 := Lib.hid (FY12.out.below hs)
                have UY12 := Lib.hid (UY11.out.below hs)
                have FT10 := Lib.hid (FT9.out.below hs)
                have UT9 := Lib.hid (UT8.out.below hs)
                have X16 := Lib.hid (X15.out.below hs)
                have X24 := Lib.hid (X23.out.below hs)
                have UU3 := Lib.hid (UU2.out.below hs)
                have X31 := Lib.hid (X30.out.below hs)
                clear B23 E20 V19 H19 FX15 UX14 FY12 UY11 FT9 UT8 X15 X23 UU2 X30
                clear hs
                go_wp2
                go_ret
                exact ⟨rfl, B24.out⟩
          · have v_0 := V0.out.c0
            have v_1 := V0.out.c1
            have v_2 := V0.out.c2
            have v_3 := V0.out.c3
            have v_4 := V0.out.c4
            have v_5 := V0.out.c5
            have v_6 := V0.out.c6
            have v_7 := V0.out.c7
            have v_8 := V0.out.c8
            go_wp2_with fail
            refine (C.growNo _ v (.slice xa m xc) left right _ E1.out HL.out Z0.out hw).mono ?_
            rintro ev w4 ⟨qa, qb, qt, rfl, ha, hb, ht, hs⟩
            obtain ⟨ra, rc, ea, ec, rfl, -⟩ := ha.open
            obtain ⟨rb, rq, eb, eq, rfl, -⟩ := hb.open
            obtain ⟨sa, sc, fa, fc, rfl, -⟩ := ht.open
            simp only [RecD.zero, Sc.zero, recVal, List.length_nil]
            clear v_0 v_1 v_2 v_3 v_4 v_5 v_6 v_7 v_8
            have L5 := Lib.hid (L4.out.below hs)
            have B5 := Lib.hid (B4.out.trans (hs.mono B4.out.size))
            have X3 := Lib.hid (X2.out.below hs)
            have E2 := Lib.hid (E1.out.below hs)
            have V1 := Lib.hid (V0.out.below hs)
            have H1 := Lib.hid (H0.out.below hs)
            clear L4 B4 X2 E1 V0 H0
            clear hs ha hb ht
            obtain ⟨yw, hyw⟩ : ∃ y, whyI v = y := ⟨_, rfl⟩
            rw [hyw]
            clear hyw hw
            obtain ⟨gw, hgw⟩ : ∃ W, W = (World.alloc (World.alloc (World.alloc w4 (.cells #[.int .i64 0, .string ⟨#[]⟩, .string ⟨#[]⟩, .bool false, .int .i64 0, .slice none 0 0, .slice none 0 0, .string ⟨#[]⟩, .string ⟨#[]⟩, .int .i64 0, .int .i64 0, .int .i64 0, .string ⟨#[]⟩, .int .i64 0, .int .i64 0] 39)) (.cells #[.int .i64 0, .string ⟨#[]⟩, .string ⟨#[]⟩, .bool false, .int .i64 0, .slice none 0 0, .slice none 0 0, .string ⟨#[]⟩, .string ⟨#[]⟩, .int .i64 0, .int .i64 0, .int .i64 0, .string ⟨#[]⟩, .int .i64 0, .int .i64 0] 39)) (.cells #[.int .i64 0, .string ⟨#[]⟩, .string ⟨#[]⟩, .bool false, .int .i64 0, .slice none 0 0, .slice none 0 0, .string ⟨#[]⟩, .string ⟨#[]⟩, .int .i64 0, .int .i64 0, .int .i64 0, .string ⟨#[]⟩, .int .i64 0, .int .i64 0] 39)) := ⟨_, rfl⟩
            have gb : Below w4.heap.size w4 gw := by rw [hgw]; exact (alloc2_below w4 _ _).trans ((alloc_below0 _ _).mono (alloc2_below w4 _ _).size)
            have gz0 : HB (w4.heap.size) (.cells #[.int .i64 0, .string ⟨#[]⟩, .string ⟨#[]⟩, .bool false, .int .i64 0, .slice none 0 0, .slice none 0 0, .string ⟨#[]⟩, .string ⟨#[]⟩, .int .i64 0, .int .i64 0, .int .i64 0, .string ⟨#[]⟩, .int .i64 0, .int .i64 0] 39) gw := by rw [hgw]; exact (HB.fst _ _ w4).below (alloc_below0 _ _)
            have gz1 : HB (w4.heap.size + 1) (.cells #[.int .i64 0, .string ⟨#[]⟩, .string ⟨#[]⟩, .bool false, .int .i64 0, .slice none 0 0, .slice none 0 0, .string ⟨#[]⟩, .string ⟨#[]⟩, .int .i64 0, .int .i64 0, .int .i64 0, .string ⟨#[]⟩, .int .i64 0, .int .i64 0] 39) gw := by rw [hgw]; exact (HB.snd _ _ w4).below (alloc_below0 _ _)
            have gz2 : HB (w4.heap.size + 1 + 1) (.cells #[.int .i64 0, .string ⟨#[]⟩, .string ⟨#[]⟩, .bool false, .int .i64 0, .slice none 0 0, .slice none 0 0, .string ⟨#[]⟩, .string ⟨#[]⟩, .int .i64 0, .int .i64 0, .int .i64 0, .string ⟨#[]⟩, .int .i64 0, .int .i64 0] 39) gw := by rw [hgw, show w4.heap.size + 1 + 1 = (World.alloc (World.alloc w4 (.cells #[.int .i64 0, .string ⟨#[]⟩, .string ⟨#[]⟩, .bool false, .int .i64 0, .slice none 0 0, .slice none 0 0, .string ⟨#[]⟩, .string ⟨#[]⟩, .int .i64 0, .int .i64 0, .int .i64 0, .string ⟨#[]⟩, .int .i64 0, .int .i64 0] 39)) (.cells #[.int .i64 0, .string ⟨#[]⟩, .string ⟨#[]⟩, .bool false, .int .i64 0, .slice none 0 0, .slice none 0 0, .string ⟨#[]⟩, .string ⟨#[]⟩, .int .i64 0, .int .i64 0, .int .i64 0, .string ⟨#[]⟩, .int .i64 0, .int .i64 0] 39)).heap.size from by simp]; exact HB.new _ _
            have gb : Below w4.heap.size w4 (World.setCells gw (w4.heap.size) 0 (#[.int .i64 0, .string ⟨#[]⟩, .string ⟨#[]⟩, .bool false, .int .i64 0, .slice ra 0 rc, .slice ea 0 ec, .string ⟨#[]⟩, .string ⟨#[]⟩, .int .i64 0, .int .i64 0, .int .i64 0, .string ⟨#[]⟩, .int .i64 0, .int .i64 0] : Array Value).toList) := below_setCells (b := w4.heap.size) (by omega) (#[.int .i64 0, .string ⟨#[]⟩, .string ⟨#[]⟩, .bool false, .int .i64 0, .slice ra 0 rc, .slice ea 0 ec, .string ⟨#[]⟩, .string ⟨#[]⟩, .int .i64 0, .int .i64 0, .int .i64 0, .string ⟨#[]⟩, .int .i64 0, .int .i64 0] : Array Value).toList 0 _ gb
            have gy0 : HB (w4.heap.size) (.cells (#[.int .i64 0, .string ⟨#[]⟩, .string ⟨#[]⟩, .bool false, .int .i64 0, .slice ra 0 rc, .slice ea 0 ec, .string ⟨#[]⟩, .string ⟨#[]⟩, .int .i64 0, .int .i64 0, .int .i64 0, .string ⟨#[]⟩, .int .i64 0, .int .i64 0] : Array Value) 39) (World.setCells gw (w4.heap.size) 0 (#[.int .i64 0, .string ⟨#[]⟩, .string ⟨#[]⟩, .bool false, .int .i64 0, .slice ra 0 rc, .slice ea 0 ec, .string ⟨#[]⟩, .string ⟨#[]⟩, .int .i64 0, .int .i64 0, .int .i64 0, .string ⟨#[]⟩, .int .i64 0, .int .i64 0] : Array Value).toList) := gz0.sets (#[.int .i64 0, .string ⟨#[]⟩, .string ⟨#[]⟩, .bool false, .int .i64 0, .slice ra 0 rc, .slice ea 0 ec, .string ⟨#[]⟩, .string ⟨#[]⟩, .int .i64 0, .int .i64 0, .int .i64 0, .string ⟨#[]⟩, .int .i64 0, .int .i64 0] : Array Value).toList rfl
            have gx1_0 : HB (w4.heap.size + 1) (.cells #[.int .i64 0, .string ⟨#[]⟩, .string ⟨#[]⟩, .bool false, .int .i64 0, .slice none 0 0, .slice none 0 0, .string ⟨#[]⟩, .string ⟨#[]⟩, .int .i64 0, .int .i64 0, .int .i64 0, .string ⟨#[]⟩, .int .i64 0, .int .i64 0] 39) (World.setCells gw (w4.heap.size) 0 (#[.int .i64 0, .string ⟨#[]⟩, .string ⟨#[]⟩, .bool false, .int .i64 0, .slice ra 0 rc, .slice ea 0 ec, .string ⟨#[]⟩, .string ⟨#[]⟩, .int .i64 0, .int .i64 0, .int .i64 0, .string ⟨#[]⟩, .int .i64 0, .int .i64 0] : Array Value).toList) := gz1.off (b2 := w4.heap.size) (by omega) (#[.int .i64 0, .string ⟨#[]⟩, .string ⟨#[]⟩, .bool false, .int .i64 0, .slice ra 0 rc, .slice ea 0 ec, .string ⟨#[]⟩, .string ⟨#[]⟩, .int .i64 0, .int .i64 0, .int .i64 0, .string ⟨#[]⟩, .int .i64 0, .int .i64 0] : Array Value).toList 0
            have gz1 := gx1_0
            have gx2_0 : HB (w4.heap.size + 1 + 1) (.cells #[.int .i64 0, .string ⟨#[]⟩, .string ⟨#[]⟩, .bool false, .int .i64 0, .slice none 0 0, .slice none 0 0, .string ⟨#[]⟩, .string ⟨#[]⟩, .int .i64 0, .int .i64 0, .int .i64 0, .string ⟨#[]⟩, .int .i64 0, .int .i64 0] 39) (World.setCells gw (w4.heap.size) 0 (#[.int .i64 0, .string ⟨#[]⟩, .string ⟨#[]⟩, .bool false, .int .i64 0, .slice ra 0 rc, .slice ea 0 ec, .string ⟨#[]⟩, .string ⟨#[]⟩, .int .i64 0, .int .i64 0, .int .i64 0, .string ⟨#[]⟩, .int .i64 0, .int .i64 0] : Array Value).toList) := gz2.off (b2 := w4.heap.size) (by omega) (#[.int .i64 0, .string ⟨#[]⟩, .string ⟨#[]⟩, .bool false, .int .i64 0, .slice ra 0 rc, .slice ea 0 ec, .string ⟨#[]⟩, .string ⟨#[]⟩, .int .i64 0, .int .i64 0, .int .i64 0, .string ⟨#[]⟩, .int .i64 0, .int .i64 0] : Array Value).toList 0
            have gz2 := gx2_0
            have gb : Below w4.heap.size w4 (World.setCells (World.setCells gw (w4.heap.size) 0 (#[.int .i64 0, .string ⟨#[]⟩, .string ⟨#[]⟩, .bool false, .int .i64 0, .slice ra 0 rc, .slice ea 0 ec, .string ⟨#[]⟩, .string ⟨#[]⟩, .int .i64 0, .int .i64 0, .int .i64 0, .string ⟨#[]⟩, .int .i64 0, .int .i64 0] : Array Value).toList) (w4.heap.size + 1) 0 (#[.int .i64 0, .string ⟨#[]⟩, .string ⟨#[]⟩, .bool false, .int .i64 0, .slice rb 0 rq, .slice eb 0 eq, .string ⟨#[]⟩, .string ⟨#[]⟩, .int .i64 0, .int .i64 0, .int .i64 0, .string ⟨#[]⟩, .int .i64 0, .int .i64 0] : Array Value).toList) := below_setCells (b := w4.heap.size + 1) (by omega) (#[.int .i64 0, .string ⟨#[]⟩, .string ⟨#[]⟩, .bool false, .int .i64 0, .slice rb 0 rq, .slice eb 0 eq, .string ⟨#[]⟩, .string ⟨#[]⟩, .int .i64 0, .int .i64 0, .int .i64 0, .string ⟨#[]⟩, .int .i64 0, .int .i64 0] : Array Value).toList 0 _ gb
            have gy0 : HB (w4.heap.size) (.cells (#[.int .i64 0, .string ⟨#[]⟩, .string ⟨#[]⟩, .bool false, .int .i64 0, .slice ra 0 rc, .slice ea 0 ec, .string ⟨#[]⟩, .string ⟨#[]⟩, .int .i64 0, .int .i64 0, .int .i64 0, .string ⟨#[]⟩, .int .i64 0, .int .i64 0] : Array Value) 39) (World.setCells (World.setCells gw (w4.heap.size) 0 (#[.int .i64 0, .string ⟨#[]⟩, .string ⟨#[]⟩, .bool false, .int .i64 0, .slice ra 0 rc, .slice ea 0 ec, .string ⟨#[]⟩, .string ⟨#[]⟩, .int .i64 0, .int .i64 0, .int .i64 0, .string ⟨#[]⟩, .int .i64 0, .int .i64 0] : Array Value).toList) (w4.heap.size + 1) 0 (#[.int .i64 0, .string ⟨#[]⟩, .string ⟨#[]⟩, .bool false, .int .i64 0, .slice rb 0 rq, .slice eb 0 eq, .string ⟨#[]⟩, .string ⟨#[]⟩, .int .i64 0, .int .i64 0, .int .i64 0, .string ⟨#[]⟩, .int .i64 0, .int .i64 0] : Array Value).toList) := gy0.off (b2 := w4.heap.size + 1) (by omega) (#[.int .i64 0, .string ⟨#[]⟩, .string ⟨#[]⟩, .bool false, .int .i64 0, .slice rb 0 rq, .slice eb 0 eq, .string ⟨#[]⟩, .string ⟨#[]⟩, .int .i64 0, .int .i64 0, .int .i64 0, .string ⟨#[]⟩, .int .i64 0, .int .i64 0] : Array Value).toList 0
            have gy1 : HB (w4.heap.size + 1) (.cells (#[.int .i64 0, .string ⟨#[]⟩, .string ⟨#[]⟩, .bool false, .int .i64 0, .slice rb 0 rq, .slice eb 0 eq, .string ⟨#[]⟩, .string ⟨#[]⟩, .int .i64 0, .int .i64 0, .int .i64 0, .string ⟨#[]⟩, .int .i64 0, .int .i64 0] : Array Value) 39) (World.setCells (World.setCells gw (w4.heap.size) 0 (#[.int .i64 0, .string ⟨#[]⟩, .string ⟨#[]⟩, .bool false, .int .i64 0, .slice ra 0 rc, .slice ea 0 ec, .string ⟨#[]⟩, .string ⟨#[]⟩, .int .i64 0, .int .i64 0, .int .i64 0, .string ⟨#[]⟩, .int .i64 0, .int .i64 0] : Array Value).toList) (w4.heap.size + 1) 0 (#[.int .i64 0, .string ⟨#[]⟩, .string ⟨#[]⟩, .bool false, .int .i64 0, .slice rb 0 rq, .slice eb 0 eq, .string ⟨#[]⟩, .string ⟨#[]⟩, .int .i64 0, .int .i64 0, .int .i64 0, .string ⟨#[]⟩, .int .i64 0, .int .i64 0] : Array Value).toList) := gz1.sets (#[.int .i64 0, .string ⟨#[]⟩, .string ⟨#[]⟩, .bool false, .int .i64 0, .slice rb 0 rq, .slice eb 0 eq, .string ⟨#[]⟩, .string ⟨#[]⟩, .int .i64 0, .int .i64 0, .int .i64 0, .string ⟨#[]⟩, .int .i64 0, .int .i64 0] : Array Value).toList rfl
            have gx2_1 : HB (w4.heap.size + 1 + 1) (.cells #[.int .i64 0, .string ⟨#[]⟩, .string ⟨#[]⟩, .bool false, .int .i64 0, .slice none 0 0, .slice none 0 0, .string ⟨#[]⟩, .string ⟨#[]⟩, .int .i64 0, .int .i64 0, .int .i64 0, .string ⟨#[]⟩, .int .i64 0, .int .i64 0] 39) (World.setCells (World.setCells gw (w4.heap.size) 0 (#[.int .i64 0, .string ⟨#[]⟩, .string ⟨#[]⟩, .bool false, .int .i64 0, .slice ra 0 rc, .slice ea 0 ec, .string ⟨#[]⟩, .string ⟨#[]⟩, .int .i64 0, .int .i64 0, .int .i64 0, .string ⟨#[]⟩, .int .i64 0, .int .i64 0] : Array Value).toList) (w4.heap.size + 1) 0 (#[.int .i64 0, .string ⟨#[]⟩, .string ⟨#[]⟩, .bool false, .int .i64 0, .slice rb 0 rq, .slice eb 0 eq, .string ⟨#[]⟩, .string ⟨#[]⟩, .int .i64 0, .int .i64 0, .int .i64 0, .string ⟨#[]⟩, .int .i64 0, .int .i64 0] : Array Value).toList) := gx2_0.off (b2 := w4.heap.size + 1) (by omega) (#[.int .i64 0, .string ⟨#[]⟩, .string ⟨#[]⟩, .bool false, .int .i64 0, .slice rb 0 rq, .slice eb 0 eq, .string ⟨#[]⟩, .string ⟨#[]⟩, .int .i64 0, .int .i64 0, .int .i64 0, .string ⟨#[]⟩, .int .i64 0, .int .i64 0] : Array Value).toList 0
            have gz2 := gx2_1
            have gb : Below w4.heap.size w4 (World.setCells (World.setCells (World.setCells gw (w4.heap.size) 0 (#[.int .i64 0, .string ⟨#[]⟩, .string ⟨#[]⟩, .bool false, .int .i64 0, .slice ra 0 rc, .slice ea 0 ec, .string ⟨#[]⟩, .string ⟨#[]⟩, .int .i64 0, .int .i64 0, .int .i64 0, .string ⟨#[]⟩, .int .i64 0, .int .i64 0] : Array Value).toList) (w4.heap.size + 1) 0 (#[.int .i64 0, .string ⟨#[]⟩, .string ⟨#[]⟩, .bool false, .int .i64 0, .slice rb 0 rq, .slice eb 0 eq, .string ⟨#[]⟩, .string ⟨#[]⟩, .int .i64 0, .int .i64 0, .int .i64 0, .string ⟨#[]⟩, .int .i64 0, .int .i64 0] : Array Value).toList) (w4.heap.size + 1 + 1) 0 (#[.int .i64 0, .string ⟨#[]⟩, .string ⟨#[]⟩, .bool false, .int .i64 0, .slice sa 0 sc, .slice fa 0 fc, .string ⟨#[]⟩, .string ⟨#[]⟩, .int .i64 0, .int .i64 0, .int .i64 0, .string ⟨#[]⟩, .int .i64 0, .int .i64 0] : Array Value).toList) := below_setCells (b := w4.heap.size + 1 + 1) (by omega) (#[.int .i64 0, .string ⟨#[]⟩, .string ⟨#[]⟩, .bool false, .int .i64 0, .slice sa 0 sc, .slice fa 0 fc, .string ⟨#[]⟩, .string ⟨#[]⟩, .int .i64 0, .int .i64 0, .int .i64 0, .string ⟨#[]⟩, .int .i64 0, .int .i64 0] : Array Value).toList 0 _ gb
            have gy0 : HB (w4.heap.size) (.cells (#[.int .i64 0, .string ⟨#[]⟩, .string ⟨#[]⟩, .bool false, .int .i64 0, .slice ra 0 rc, .slice ea 0 ec, .string ⟨#[]⟩, .string ⟨#[]⟩, .int .i64 0, .int .i64 0, .int .i64 0, .string ⟨#[]⟩, .int .i64 0, .int .i64 0] : Array Value) 39) (World.setCells (World.setCells (World.setCells gw (w4.heap.size) 0 (#[.int .i64 0, .string ⟨#[]⟩, .string ⟨#[]⟩, .bool false, .int .i64 0, .slice ra 0 rc, .slice ea 0 ec, .string ⟨#[]⟩, .string ⟨#[]⟩, .int .i64 0, .int .i64 0, .int .i64 0, .string ⟨#[]⟩, .int .i64 0, .int .i64 0] : Array Value).toList) (w4.heap.size + 1) 0 (#[.int .i64 0, .string ⟨#[]⟩, .string ⟨#[]⟩, .bool false, .int .i64 0, .slice rb 0 rq, .slice eb 0 eq, .string ⟨#[]⟩, .string ⟨#[]⟩, .int .i64 0, .int .i64 0, .int .i64 0, .string ⟨#[]⟩, .int .i64 0, .int .i64 0] : Array Value).toList) (w4.heap.size + 1 + 1) 0 (#[.int .i64 0, .string ⟨#[]⟩, .string ⟨#[]⟩, .bool false, .int .i64 0, .slice sa 0 sc, .slice fa 0 fc, .string ⟨#[]⟩, .string ⟨#[]⟩, .int .i64 0, .int .i64 0, .int .i64 0, .string ⟨#[]⟩, .int .i64 0, .int .i64 0] : Array Value).toList) := gy0.off (b2 := w4.heap.size + 1 + 1) (by omega) (#[.int .i64 0, .string ⟨#[]⟩, .string ⟨#[]⟩, .bool false, .int .i64 0, .slice sa 0 sc, .slice fa 0 fc, .string ⟨#[]⟩, .string ⟨#[]⟩, .int .i64 0, .int .i64 0, .int .i64 0, .string ⟨#[]⟩, .int .i64 0, .int .i64 0] : Array Value).toList 0
            have gy1 : HB (w4.heap.size + 1) (.cells (#[.int .i64 0, .string ⟨#[]⟩, .string ⟨#[]⟩, .bool false, .int .i64 0, .slice rb 0 rq, .slice eb 0 eq, .string ⟨#[]⟩, .string ⟨#[]⟩, .int .i64 0, .int .i64 0, .int .i64 0, .string ⟨#[]⟩, .int .i64 0, .int .i64 0] : Array Value) 39) (World.setCells (World.setCells (World.setCells gw (w4.heap.size) 0 (#[.int .i64 0, .string ⟨#[]⟩, .string ⟨#[]⟩, .bool false, .int .i64 0, .slice ra 0 rc, .slice ea 0 ec, .string ⟨#[]⟩, .string ⟨#[]⟩, .int .i64 0, .int .i64 0, .int .i64 0, .string ⟨#[]⟩, .int .i64 0, .int .i64 0] : Array Value).toList) (w4.heap.size + 1) 0 (#[.int .i64 0, .string ⟨#[]⟩, .string ⟨#[]⟩, .bool false, .int .i64 0, .slice rb 0 rq, .slice eb 0 eq, .string ⟨#[]⟩, .string ⟨#[]⟩, .int .i64 0, .int .i64 0, .int .i64 0, .string ⟨#[]⟩, .int .i64 0, .int .i64 0] : Array Value).toList) (w4.heap.size + 1 + 1) 0 (#[.int .i64 0, .string ⟨#[]⟩, .string ⟨#[]⟩, .bool false, .int .i64 0, .slice sa 0 sc, .slice fa 0 fc, .string ⟨#[]⟩, .string ⟨#[]⟩, .int .i64 0, .int .i64 0, .int .i64 0, .string ⟨#[]⟩, .int .i64 0, .int .i64 0] : Array Value).toList) := gy1.off (b2 := w4.heap.size + 1 + 1) (by omega) (#[.int .i64 0, .string ⟨#[]⟩, .string ⟨#[]⟩, .bool false, .int .i64 0, .slice sa 0 sc, .slice fa 0 fc, .string ⟨#[]⟩, .string ⟨#[]⟩, .int .i64 0, .int .i64 0, .int .i64 0, .string ⟨#[]⟩, .int .i64 0, .int .i64 0] : Array Value).toList 0
            have gy2 : HB (w4.heap.size + 1 + 1) (.cells (#[.int .i64 0, .string ⟨#[]⟩, .string ⟨#[]⟩, .bool false, .int .i64 0, .slice sa 0 sc, .slice fa 0 fc, .string ⟨#[]⟩, .string ⟨#[]⟩, .int .i64 0, .int .i64 0, .int .i64 0, .string ⟨#[]⟩, .int .i64 0, .int .i64 0] : Array Value) 39) (World.setCells (World.setCells (World.setCells gw (w4.heap.size) 0 (#[.int .i64 0, .string ⟨#[]⟩, .string ⟨#[]⟩, .bool false, .int .i64 0, .slice ra 0 rc, .slice ea 0 ec, .string ⟨#[]⟩, .string ⟨#[]⟩, .int .i64 0, .int .i64 0, .int .i64 0, .string ⟨#[]⟩, .int .i64 0, .int .i64 0] : Array Value).toList) (w4.heap.size + 1) 0 (#[.int .i64 0, .string ⟨#[]⟩, .string ⟨#[]⟩, .bool false, .int .i64 0, .slice rb 0 rq, .slice eb 0 eq, .string ⟨#[]⟩, .string ⟨#[]⟩, .int .i64 0, .int .i64 0, .int .i64 0, .string ⟨#[]⟩, .int .i64 0, .int .i64 0] : Array Value).toList) (w4.heap.size + 1 + 1) 0 (#[.int .i64 0, .string ⟨#[]⟩, .string ⟨#[]⟩, .bool false, .int .i64 0, .slice sa 0 sc, .slice fa 0 fc, .string ⟨#[]⟩, .string ⟨#[]⟩, .int .i64 0, .int .i64 0, .int .i64 0, .string ⟨#[]⟩, .int .i64 0, .int .i64 0] : Array Value).toList) := gz2.sets (#[.int .i64 0, .string ⟨#[]⟩, .string ⟨#[]⟩, .bool false, .int .i64 0, .slice sa 0 sc, .slice fa 0 fc, .string ⟨#[]⟩, .string ⟨#[]⟩, .int .i64 0, .int .i64 0, .int .i64 0, .string ⟨#[]⟩, .int .i64 0, .int .i64 0] : Array Value).toList rfl
            have hs := gb
            have L6 := Lib.hid (L5.out.below hs)
            have B6 := Lib.hid (B5.out.trans (hs.mono B5.out.size))
            have X4 := Lib.hid (X3.out.below hs)
            have E3 := Lib.hid (E2.out.below hs)
            have V2 := Lib.hid (V1.out.below hs)
            have H2 := Lib.hid (H1.out.below hs)
            clear L5 B5 X3 E2 V1 H1
            clear gb
            go_wp2_with (first | (rw [← hgw]; refine wpList_store_mid rfl 39 (.tmp 11) (.tmp 53) rfl (w4.heap.size) 0 (#[.int .i64 0, .string ⟨#[]⟩, .string ⟨#[]⟩, .bool false, .int .i64 0, .slice ra 0 rc, .slice ea 0 ec, .string ⟨#[]⟩, .string ⟨#[]⟩, .int .i64 0, .int .i64 0, .int .i64 0, .string ⟨#[]⟩, .int .i64 0, .int .i64 0] : Array Value) rfl rfl ?_ recInfoS (by kernel_rfl) ?_; exact gz0.there 15 (Nat.le_refl _)) | (refine wpList_store_mid rfl 39 (.tmp 12) (.tmp 54) rfl (w4.heap.size + 1) 0 (#[.int .i64 0, .string ⟨#[]⟩, .string ⟨#[]⟩, .bool false, .int .i64 0, .slice rb 0 rq, .slice eb 0 eq, .string ⟨#[]⟩, .string ⟨#[]⟩, .int .i64 0, .int .i64 0, .int .i64 0, .string ⟨#[]⟩, .int .i64 0, .int .i64 0] : Array Value) rfl rfl ?_ recInfoS (by kernel_rfl) ?_; exact gx1_0.there 15 (Nat.le_refl _)) | (refine wpList_store_mid rfl 39 (.tmp 13) (.tmp 55) rfl (w4.heap.size + 1 + 1) 0 (#[.int .i64 0, .string ⟨#[]⟩, .string ⟨#[]⟩, .bool false, .int .i64 0, .slice sa 0 sc, .slice fa 0 fc, .string ⟨#[]⟩, .string ⟨#[]⟩, .int .i64 0, .int .i64 0, .int .i64 0, .string ⟨#[]⟩, .int .i64 0, .int .i64 0] : Array Value) rfl rfl ?_ recInfoS (by kernel_rfl) ?_; exact gx2_1.there 15 (Nat.le_refl _); clear hs; generalize hG : World.setCells (World.setCells (World.setCells _ _ _ _) _ _ _) _ _ _ = w5 at *; clear hG))
            refine (awakeI C _).mono ?_
            rintro ev w6 ⟨rfl, hs⟩
            have L7 := Lib.hid (L6.out.below hs)
            have B7 := Lib.hid (B6.out.trans (hs.mono B6.out.size))
            have X5 := Lib.hid (X4.out.below hs)
            have E4 := Lib.hid (E3.out.below hs)
            have V3 := Lib.hid (V2.out.below hs)
            have H3 := Lib.hid (H2.out.below hs)
            clear L6 B6 X4 E3 V2 H2
            clear hs
            go_wp2
            go_ret
            exact ⟨rfl, B7.out⟩
        · rw [errV_code hc]
          have hs := alloc_below0 w3 (ivObj v (.slice xa m xc))
          have L4 := Lib.hid (L3.out.below hs)
          have B4 := Lib.hid (B3.out.trans (hs.mono B3.out.size))
          have X2 := Lib.hid (X1.out.below hs)
          have E1 := Lib.hid (E0.out.below hs)
          clear L3 B3 X1 E0
          have V0 := Lib.hid (VB.new v (.slice xa m xc) w3)
          clear hs
          unfold ivObj at L4 B4 X2 E1 V0
          have HZ := Lib.hid (viewI_bad hc N1.out)
          have hw := viewI_why hc N1.out
          clear hc
          have v_0 := V0.out.c0
          have v_1 := V0.out.c1
          have v_2 := V0.out.c2
          have v_3 := V0.out.c3
          have v_4 := V0.out.c4
          have v_5 := V0.out.c5
          have v_6 := V0.out.c6
          have v_7 := V0.out.c7
          have v_8 := V0.out.c8
          go_wp2_with fail
          refine (C.growNo _ v (.slice xa m xc) left right _ E1.out HZ.out.2 Z0.out hw).mono ?_
          rintro ev w4 ⟨qa, qb, qt, rfl, ha, hb, ht, hs⟩
          obtain ⟨ra, rc, ea, ec, rfl, -⟩ := ha.open
          obtain ⟨rb, rq, eb, eq, rfl, -⟩ := hb.open
          obtain ⟨sa, sc, fa, fc, rfl, -⟩ := ht.open
          simp only [RecD.zero, Sc.zero, recVal, List.length_nil]
          clear v_0 v_1 v_2 v_3 v_4 v_5 v_6 v_7 v_8
          have L5 := Lib.hid (L4.out.below hs)
          have B5 := Lib.hid (B4.out.trans (hs.mono B4.out.size))
          have X3 := Lib.hid (X2.out.below hs)
          have E2 := Lib.hid (E1.out.below hs)
          have V1 := Lib.hid (V0.out.below hs)
          clear L4 B4 X2 E1 V0
          clear hs ha hb ht
          obtain ⟨yw, hyw⟩ : ∃ y, whyI v = y := ⟨_, rfl⟩
          rw [hyw]
          clear hyw hw
          obtain ⟨gw, hgw⟩ : ∃ W, W = (World.alloc (World.alloc (World.alloc w4 (.cells #[.int .i64 0, .string ⟨#[]⟩, .string ⟨#[]⟩, .bool false, .int .i64 0, .slice none 0 0, .slice none 0 0, .string ⟨#[]⟩, .string ⟨#[]⟩, .int .i64 0, .int .i64 0, .int .i64 0, .string ⟨#[]⟩, .int .i64 0, .int .i64 0] 39)) (.cells #[.int .i64 0, .string ⟨#[]⟩, .string ⟨#[]⟩, .bool false, .int .i64 0, .slice none 0 0, .slice none 0 0, .string ⟨#[]⟩, .string ⟨#[]⟩, .int .i64 0, .int .i64 0, .int .i64 0, .string ⟨#[]⟩, .int .i64 0, .int .i64 0] 39)) (.cells #[.int .i64 0, .string ⟨#[]⟩, .string ⟨#[]⟩, .bool false, .int .i64 0, .slice none 0 0, .slice none 0 0, .string ⟨#[]⟩, .string ⟨#[]⟩, .int .i64 0, .int .i64 0, .int .i64 0, .string ⟨#[]⟩, .int .i64 0, .int .i64 0] 39)) := ⟨_, rfl⟩
          have gb : Below w4.heap.size w4 gw := by rw [hgw]; exact (alloc2_below w4 _ _).trans ((alloc_below0 _ _).mono (alloc2_below w4 _ _).size)
          have gz0 : HB (w4.heap.size) (.cells #[.int .i64 0, .string ⟨#[]⟩, .string ⟨#[]⟩, .bool false, .int .i64 0, .slice none 0 0, .slice none 0 0, .string ⟨#[]⟩, .string ⟨#[]⟩, .int .i64 0, .int .i64 0, .int .i64 0, .string ⟨#[]⟩, .int .i64 0, .int .i64 0] 39) gw := by rw [hgw]; exact (HB.fst _ _ w4).below (alloc_below0 _ _)
          have gz1 : HB (w4.heap.size + 1) (.cells #[.int .i64 0, .string ⟨#[]⟩, .string ⟨#[]⟩, .bool false, .int .i64 0, .slice none 0 0, .slice none 0 0, .string ⟨#[]⟩, .string ⟨#[]⟩, .int .i64 0, .int .i64 0, .int .i64 0, .string ⟨#[]⟩, .int .i64 0, .int .i64 0] 39) gw := by rw [hgw]; exact (HB.snd _ _ w4).below (alloc_below0 _ _)
          have gz2 : HB (w4.heap.size + 1 + 1) (.cells #[.int .i64 0, .string ⟨#[]⟩, .string ⟨#[]⟩, .bool false, .int .i64 0, .slice none 0 0, .slice none 0 0, .string ⟨#[]⟩, .string ⟨#[]⟩, .int .i64 0, .int .i64 0, .int .i64 0, .string ⟨#[]⟩, .int .i64 0, .int .i64 0] 39) gw := by rw [hgw, show w4.heap.size + 1 + 1 = (World.alloc (World.alloc w4 (.cells #[.int .i64 0, .string ⟨#[]⟩, .string ⟨#[]⟩, .bool false, .int .i64 0, .slice none 0 0, .slice none 0 0, .string ⟨#[]⟩, .string ⟨#[]⟩, .int .i64 0, .int .i64 0, .int .i64 0, .string ⟨#[]⟩, .int .i64 0, .int .i64 0] 39)) (.cells #[.int .i64 0, .string ⟨#[]⟩, .string ⟨#[]⟩, .bool false, .int .i64 0, .slice none 0 0, .slice none 0 0, .string ⟨#[]⟩, .string ⟨#[]⟩, .int .i64 0, .int .i64 0, .int .i64 0, .string ⟨#[]⟩, .int .i64 0, .int .i64 0] 39)).heap.size from by simp]; exact HB.new _ _
          have gb : Below w4.heap.size w4 (World.setCells gw (w4.heap.size) 0 (#[.int .i64 0, .string ⟨#[]⟩, .string ⟨#[]⟩, .bool false, .int .i64 0, .slice ra 0 rc, .slice ea 0 ec, .string ⟨#[]⟩, .string ⟨#[]⟩, .int .i64 0, .int .i64 0, .int .i64 0, .string ⟨#[]⟩, .int .i64 0, .int .i64 0] : Array Value).toList) := below_setCells (b := w4.heap.size) (by omega) (#[.int .i64 0, .string ⟨#[]⟩, .string ⟨#[]⟩, .bool false, .int .i64 0, .slice ra 0 rc, .slice ea 0 ec, .string ⟨#[]⟩, .string ⟨#[]⟩, .int .i64 0, .int .i64 0, .int .i64 0, .string ⟨#[]⟩, .int .i64 0, .int .i64 0] : Array Value).toList 0 _ gb
          have gy0 : HB (w4.heap.size) (.cells (#[.int .i64 0, .string ⟨#[]⟩, .string ⟨#[]⟩, .bool false, .int .i64 0, .slice ra 0 rc, .slice ea 0 ec, .string ⟨#[]⟩, .string ⟨#[]⟩, .int .i64 0, .int .i64 0, .int .i64 0, .string ⟨#[]⟩, .int .i64 0, .int .i64 0] : Array Value) 39) (World.setCells gw (w4.heap.size) 0 (#[.int .i64 0, .string ⟨#[]⟩, .string ⟨#[]⟩, .bool false, .int .i64 0, .slice ra 0 rc, .slice ea 0 ec, .string ⟨#[]⟩, .string ⟨#[]⟩, .int .i64 0, .int .i64 0, .int .i64 0, .string ⟨#[]⟩, .int .i64 0, .int .i64 0] : Array Value).toList) := gz0.sets (#[.int .i64 0, .string ⟨#[]⟩, .string ⟨#[]⟩, .bool false, .int .i64 0, .slice ra 0 rc, .slice ea 0 ec, .string ⟨#[]⟩, .string ⟨#[]⟩, .int .i64 0, .int .i64 0, .int .i64 0, .string ⟨#[]⟩, .int .i64 0, .int .i64 0] : Array Value).toList rfl
          have gx1_0 : HB (w4.heap.size + 1) (.cells #[.int .i64 0, .string ⟨#[]⟩, .string ⟨#[]⟩, .bool false, .int .i64 0, .slice none 0 0, .slice none 0 0, .string ⟨#[]⟩, .string ⟨#[]⟩, .int .i64 0, .int .i64 0, .int .i64 0, .string ⟨#[]⟩, .int .i64 0, .int .i64 0] 39) (World.setCells gw (w4.heap.size) 0 (#[.int .i64 0, .string ⟨#[]⟩, .string ⟨#[]⟩, .bool false, .int .i64 0, .slice ra 0 rc, .slice ea 0 ec, .string ⟨#[]⟩, .string ⟨#[]⟩, .int .i64 0, .int .i64 0, .int .i64 0, .string ⟨#[]⟩, .int .i64 0, .int .i64 0] : Array Value).toList) := gz1.off (b2 := w4.heap.size) (by omega) (#[.int .i64 0, .string ⟨#[]⟩, .string ⟨#[]⟩, .bool false, .int .i64 0, .slice ra 0 rc, .slice ea 0 ec, .string ⟨#[]⟩, .string ⟨#[]⟩, .int .i64 0, .int .i64 0, .int .i64 0, .string ⟨#[]⟩, .int .i64 0, .int .i64 0] : Array Value).toList 0
          have gz1 := gx1_0
          have gx2_0 : HB (w4.heap.size + 1 + 1) (.cells #[.int .i64 0, .string ⟨#[]⟩, .string ⟨#[]⟩, .bool false, .int .i64 0, .slice none 0 0, .slice none 0 0, .string ⟨#[]⟩, .string ⟨#[]⟩, .int .i64 0, .int .i64 0, .int .i64 0, .string ⟨#[]⟩, .int .i64 0, .int .i64 0] 39) (World.setCells gw (w4.heap.size) 0 (#[.int .i64 0, .string ⟨#[]⟩, .string ⟨#[]⟩, .bool false, .int .i64 0, .slice ra 0 rc, .slice ea 0 ec, .string ⟨#[]⟩, .string ⟨#[]⟩, .int .i64 0, .int .i64 0, .int .i64 0, .string ⟨#[]⟩, .int .i64 0, .int .i64 0] : Array Value).toList) := gz2.off (b2 := w4.heap.size) (by omega) (#[.int .i64 0, .string ⟨#[]⟩, .string ⟨#[]⟩, .bool false, .int .i64 0, .slice ra 0 rc, .slice ea 0 ec, .string ⟨#[]⟩, .string ⟨#[]⟩, .int .i64 0, .int .i64 0, .int .i64 0, .string ⟨#[]⟩, .int .i64 0, .int .i64 0] : Array Value).toList 0
          have gz2 := gx2_0
          have gb : Below w4.heap.size w4 (World.setCells (World.setCells gw (w4.heap.size) 0 (#[.int .i64 0, .string ⟨#[]⟩, .string ⟨#[]⟩, .bool false, .int .i64 0, .slice ra 0 rc, .slice ea 0 ec, .string ⟨#[]⟩, .string ⟨#[]⟩, .int .i64 0, .int .i64 0, .int .i64 0, .string ⟨#[]⟩, .int .i64 0, .int .i64 0] : Array Value).toList) (w4.heap.size + 1) 0 (#[.int .i64 0, .string ⟨#[]⟩, .string ⟨#[]⟩, .bool false, .int .i64 0, .slice rb 0 rq, .slice eb 0 eq, .string ⟨#[]⟩, .string ⟨#[]⟩, .int .i64 0, .int .i64 0, .int .i64 0, .string ⟨#[]⟩, .int .i64 0, .int .i64 0] : Array Value).toList) := below_setCells (b := w4.heap.size + 1) (by omega) (#[.int .i64 0, .string ⟨#[]⟩, .string ⟨#[]⟩, .bool false, .int .i64 0, .slice rb 0 rq, .slice eb 0 eq, .string ⟨#[]⟩, .string ⟨#[]⟩, .int .i64 0, .int .i64 0, .int .i64 0, .string ⟨#[]⟩, .int .i64 0, .int .i64 0] : Array Value).toList 0 _ gb
          have gy0 : HB (w4.heap.size) (.cells (#[.int .i64 0, .string ⟨#[]⟩, .string ⟨#[]⟩, .bool false, .int .i64 0, .slice ra 0 rc, .slice ea 0 ec, .string ⟨#[]⟩, .string ⟨#[]⟩, .int .i64 0, .int .i64 0, .int .i64 0, .string ⟨#[]⟩, .int .i64 0, .int .i64 0] : Array Value) 39) (World.setCells (World.setCells gw (w4.heap.size) 0 (#[.int .i64 0, .string ⟨#[]⟩, .string ⟨#[]⟩, .bool false, .int .i64 0, .slice ra 0 rc, .slice ea 0 ec, .string ⟨#[]⟩, .string ⟨#[]⟩, .int .i64 0, .int .i64 0, .int .i64 0, .string ⟨#[]⟩, .int .i64 0, .int .i64 0] : Array Value).toList) (w4.heap.size + 1) 0 (#[.int .i64 0, .string ⟨#[]⟩, .string ⟨#[]⟩, .bool false, .int .i64 0, .slice rb 0 rq, .slice eb 0 eq, .string ⟨#[]⟩, .string ⟨#[]⟩, .int .i64 0, .int .i64 0, .int .i64 0, .string ⟨#[]⟩, .int .i64 0, .int .i64 0] : Array Value).toList) := gy0.off (b2 := w4.heap.size + 1) (by omega) (#[.int .i64 0, .string ⟨#[]⟩, .string ⟨#[]⟩, .bool false, .int .i64 0, .slice rb 0 rq, .slice eb 0 eq, .string ⟨#[]⟩, .string ⟨#[]⟩, .int .i64 0, .int .i64 0, .int .i64 0, .string ⟨#[]⟩, .int .i64 0, .int .i64 0] : Array Value).toList 0
          have gy1 : HB (w4.heap.size + 1) (.cells (#[.int .i64 0, .string ⟨#[]⟩, .string ⟨#[]⟩, .bool false, .int .i64 0, .slice rb 0 rq, .slice eb 0 eq, .string ⟨#[]⟩, .string ⟨#[]⟩, .int .i64 0, .int .i64 0, .int .i64 0, .string ⟨#[]⟩, .int .i64 0, .int .i64 0] : Array Value) 39) (World.setCells (World.setCells gw (w4.heap.size) 0 (#[.int .i64 0, .string ⟨#[]⟩, .string ⟨#[]⟩, .bool false, .int .i64 0, .slice ra 0 rc, .slice ea 0 ec, .string ⟨#[]⟩, .string ⟨#[]⟩, .int .i64 0, .int .i64 0, .int .i64 0, .string ⟨#[]⟩, .int .i64 0, .int .i64 0] : Array Value).toList) (w4.heap.size + 1) 0 (#[.int .i64 0, .string ⟨#[]⟩, .string ⟨#[]⟩, .bool false, .int .i64 0, .slice rb 0 rq, .slice eb 0 eq, .string ⟨#[]⟩, .string ⟨#[]⟩, .int .i64 0, .int .i64 0, .int .i64 0, .string ⟨#[]⟩, .int .i64 0, .int .i64 0] : Array Value).toList) := gz1.sets (#[.int .i64 0, .string ⟨#[]⟩, .string ⟨#[]⟩, .bool false, .int .i64 0, .slice rb 0 rq, .slice eb 0 eq, .string ⟨#[]⟩, .string ⟨#[]⟩, .int .i64 0, .int .i64 0, .int .i64 0, .string ⟨#[]⟩, .int .i64 0, .int .i64 0] : Array Value).toList rfl
          have gx2_1 : HB (w4.heap.size + 1 + 1) (.cells #[.int .i64 0, .string ⟨#[]⟩, .string ⟨#[]⟩, .bool false, .int .i64 0, .slice none 0 0, .slice none 0 0, .string ⟨#[]⟩, .string ⟨#[]⟩, .int .i64 0, .int .i64 0, .int .i64 0, .string ⟨#[]⟩, .int .i64 0, .int .i64 0] 39) (World.setCells (World.setCells gw (w4.heap.size) 0 (#[.int .i64 0, .string ⟨#[]⟩, .string ⟨#[]⟩, .bool false, .int .i64 0, .slice ra 0 rc, .slice ea 0 ec, .string ⟨#[]⟩, .string ⟨#[]⟩, .int .i64 0, .int .i64 0, .int .i64 0, .string ⟨#[]⟩, .int .i64 0, .int .i64 0] : Array Value).toList) (w4.heap.size + 1) 0 (#[.int .i64 0, .string ⟨#[]⟩, .string ⟨#[]⟩, .bool false, .int .i64 0, .slice rb 0 rq, .slice eb 0 eq, .string ⟨#[]⟩, .string ⟨#[]⟩, .int .i64 0, .int .i64 0, .int .i64 0, .string ⟨#[]⟩, .int .i64 0, .int .i64 0] : Array Value).toList) := gx2_0.off (b2 := w4.heap.size + 1) (by omega) (#[.int .i64 0, .string ⟨#[]⟩, .string ⟨#[]⟩, .bool false, .int .i64 0, .slice rb 0 rq, .slice eb 0 eq, .string ⟨#[]⟩, .string ⟨#[]⟩, .int .i64 0, .int .i64 0, .int .i64 0, .string ⟨#[]⟩, .int .i64 0, .int .i64 0] : Array Value).toList 0
          have gz2 := gx2_1
          have gb : Below w4.heap.size w4 (World.setCells (World.setCells (World.setCells gw (w4.heap.size) 0 (#[.int .i64 0, .string ⟨#[]⟩, .string ⟨#[]⟩, .bool false, .int .i64 0, .slice ra 0 rc, .slice ea 0 ec, .string ⟨#[]⟩, .string ⟨#[]⟩, .int .i64 0, .int .i64 0, .int .i64 0, .string ⟨#[]⟩, .int .i64 0, .int .i64 0] : Array Value).toList) (w4.heap.size + 1) 0 (#[.int .i64 0, .string ⟨#[]⟩, .string ⟨#[]⟩, .bool false, .int .i64 0, .slice rb 0 rq, .slice eb 0 eq, .string ⟨#[]⟩, .string ⟨#[]⟩, .int .i64 0, .int .i64 0, .int .i64 0, .string ⟨#[]⟩, .int .i64 0, .int .i64 0] : Array Value).toList) (w4.heap.size + 1 + 1) 0 (#[.int .i64 0, .string ⟨#[]⟩, .string ⟨#[]⟩, .bool false, .int .i64 0, .slice sa 0 sc, .slice fa 0 fc, .string ⟨#[]⟩, .string ⟨#[]⟩, .int .i64 0, .int .i64 0, .int .i64 0, .string ⟨#[]⟩, .int .i64 0, .int .i64 0] : Array Value).toList) := below_setCells (b := w4.heap.size + 1 + 1) (by omega) (#[.int .i64 0, .string ⟨#[]⟩, .string ⟨#[]⟩, .bool false, .int .i64 0, .slice sa 0 sc, .slice fa 0 fc, .string ⟨#[]⟩, .string ⟨#[]⟩, .int .i64 0, .int .i64 0, .int .i64 0, .string ⟨#[]⟩, .int .i64 0, .int .i64 0] : Array Value).toList 0 _ gb
          have gy0 : HB (w4.heap.size) (.cells (#[.int .i64 0, .string ⟨#[]⟩, .string ⟨#[]⟩, .bool false, .int .i64 0, .slice ra 0 rc, .slice ea 0 ec, .string ⟨#[]⟩, .string ⟨#[]⟩, .int .i64 0, .int .i64 0, .int .i64 0, .string ⟨#[]⟩, .int .i64 0, .int .i64 0] : Array Value) 39) (World.setCells (World.setCells (World.setCells gw (w4.heap.size) 0 (#[.int .i64 0, .string ⟨#[]⟩, .string ⟨#[]⟩, .bool false, .int .i64 0, .slice ra 0 rc, .slice ea 0 ec, .string ⟨#[]⟩, .string ⟨#[]⟩, .int .i64 0, .int .i64 0, .int .i64 0, .string ⟨#[]⟩, .int .i64 0, .int .i64 0] : Array Value).toList) (w4.heap.size + 1) 0 (#[.int .i64 0, .string ⟨#[]⟩, .string ⟨#[]⟩, .bool false, .int .i64 0, .slice rb 0 rq, .slice eb 0 eq, .string ⟨#[]⟩, .string ⟨#[]⟩, .int .i64 0, .int .i64 0, .int .i64 0, .string ⟨#[]⟩, .int .i64 0, .int .i64 0] : Array Value).toList) (w4.heap.size + 1 + 1) 0 (#[.int .i64 0, .string ⟨#[]⟩, .string ⟨#[]⟩, .bool false, .int .i64 0, .slice sa 0 sc, .slice fa 0 fc, .string ⟨#[]⟩, .string ⟨#[]⟩, .int .i64 0, .int .i64 0, .int .i64 0, .string ⟨#[]⟩, .int .i64 0, .int .i64 0] : Array Value).toList) := gy0.off (b2 := w4.heap.size + 1 + 1) (by omega) (#[.int .i64 0, .string ⟨#[]⟩, .string ⟨#[]⟩, .bool false, .int .i64 0, .slice sa 0 sc, .slice fa 0 fc, .string ⟨#[]⟩, .string ⟨#[]⟩, .int .i64 0, .int .i64 0, .int .i64 0, .string ⟨#[]⟩, .int .i64 0, .int .i64 0] : Array Value).toList 0
          have gy1 : HB (w4.heap.size + 1) (.cells (#[.int .i64 0, .string ⟨#[]⟩, .string ⟨#[]⟩, .bool false, .int .i64 0, .slice rb 0 rq, .slice eb 0 eq, .string ⟨#[]⟩, .string ⟨#[]⟩, .int .i64 0, .int .i64 0, .int .i64 0, .string ⟨#[]⟩, .int .i64 0, .int .i64 0] : Array Value) 39) (World.setCells (World.setCells (World.setCells gw (w4.heap.size) 0 (#[.int .i64 0, .string ⟨#[]⟩, .string ⟨#[]⟩, .bool false, .int .i64 0, .slice ra 0 rc, .slice ea 0 ec, .string ⟨#[]⟩, .string ⟨#[]⟩, .int .i64 0, .int .i64 0, .int .i64 0, .string ⟨#[]⟩, .int .i64 0, .int .i64 0] : Array Value).toList) (w4.heap.size + 1) 0 (#[.int .i64 0, .string ⟨#[]⟩, .string ⟨#[]⟩, .bool false, .int .i64 0, .slice rb 0 rq, .slice eb 0 eq, .string ⟨#[]⟩, .string ⟨#[]⟩, .int .i64 0, .int .i64 0, .int .i64 0, .string ⟨#[]⟩, .int .i64 0, .int .i64 0] : Array Value).toList) (w4.heap.size + 1 + 1) 0 (#[.int .i64 0, .string ⟨#[]⟩, .string ⟨#[]⟩, .bool false, .int .i64 0, .slice sa 0 sc, .slice fa 0 fc, .string ⟨#[]⟩, .string ⟨#[]⟩, .int .i64 0, .int .i64 0, .int .i64 0, .string ⟨#[]⟩, .int .i64 0, .int .i64 0] : Array Value).toList) := gy1.off (b2 := w4.heap.size + 1 + 1) (by omega) (#[.int .i64 0, .string ⟨#[]⟩, .string ⟨#[]⟩, .bool false, .int .i64 0, .slice sa 0 sc, .slice fa 0 fc, .string ⟨#[]⟩, .string ⟨#[]⟩, .int .i64 0, .int .i64 0, .int .i64 0, .string ⟨#[]⟩, .int .i64 0, .int .i64 0] : Array Value).toList 0
          have gy2 : HB (w4.heap.size + 1 + 1) (.cells (#[.int .i64 0, .string ⟨#[]⟩, .string ⟨#[]⟩, .bool false, .int .i64 0, .slice sa 0 sc, .slice fa 0 fc, .string ⟨#[]⟩, .string ⟨#[]⟩, .int .i64 0, .int .i64 0, .int .i64 0, .string ⟨#[]⟩, .int .i64 0, .int .i64 0] : Array Value) 39) (World.setCells (World.setCells (World.setCells gw (w4.heap.size) 0 (#[.int .i64 0, .string ⟨#[]⟩, .string ⟨#[]⟩, .bool false, .int .i64 0, .slice ra 0 rc, .slice ea 0 ec, .string ⟨#[]⟩, .string ⟨#[]⟩, .int .i64 0, .int .i64 0, .int .i64 0, .string ⟨#[]⟩, .int .i64 0, .int .i64 0] : Array Value).toList) (w4.heap.size + 1) 0 (#[.int .i64 0, .string ⟨#[]⟩, .string ⟨#[]⟩, .bool false, .int .i64 0, .slice rb 0 rq, .slice eb 0 eq, .string ⟨#[]⟩, .string ⟨#[]⟩, .int .i64 0, .int .i64 0, .int .i64 0, .string ⟨#[]⟩, .int .i64 0, .int .i64 0] : Array Value).toList) (w4.heap.size + 1 + 1) 0 (#[.int .i64 0, .string ⟨#[]⟩, .string ⟨#[]⟩, .bool false, .int .i64 0, .slice sa 0 sc, .slice fa 0 fc, .string ⟨#[]⟩, .string ⟨#[]⟩, .int .i64 0, .int .i64 0, .int .i64 0, .string ⟨#[]⟩, .int .i64 0, .int .i64 0] : Array Value).toList) := gz2.sets (#[.int .i64 0, .string ⟨#[]⟩, .string ⟨#[]⟩, .bool false, .int .i64 0, .slice sa 0 sc, .slice fa 0 fc, .string ⟨#[]⟩, .string ⟨#[]⟩, .int .i64 0, .int .i64 0, .int .i64 0, .string ⟨#[]⟩, .int .i64 0, .int .i64 0] : Array Value).toList rfl
          have hs := gb
          have L6 := Lib.hid (L5.out.below hs)
          have B6 := Lib.hid (B5.out.trans (hs.mono B5.out.size))
          have X4 := Lib.hid (X3.out.below hs)
          have E3 := Lib.hid (E2.out.below hs)
          have V2 := Lib.hid (V1.out.below hs)
          clear L5 B5 X3 E2 V1
          clear gb
          go_wp2_with (first | (rw [← hgw]; refine wpList_store_mid rfl 39 (.tmp 11) (.tmp 53) rfl (w4.heap.size) 0 (#[.int .i64 0, .string ⟨#[]⟩, .string ⟨#[]⟩, .bool false, .int .i64 0, .slice ra 0 rc, .slice ea 0 ec, .string ⟨#[]⟩, .string ⟨#[]⟩, .int .i64 0, .int .i64 0, .int .i64 0, .string ⟨#[]⟩, .int .i64 0, .int .i64 0] : Array Value) rfl rfl ?_ recInfoS (by kernel_rfl) ?_; exact gz0.there 15 (Nat.le_refl _)) | (refine wpList_store_mid rfl 39 (.tmp 12) (.tmp 54) rfl (w4.heap.size + 1) 0 (#[.int .i64 0, .string ⟨#[]⟩, .string ⟨#[]⟩, .bool false, .int .i64 0, .slice rb 0 rq, .slice eb 0 eq, .string ⟨#[]⟩, .string ⟨#[]⟩, .int .i64 0, .int .i64 0, .int .i64 0, .string ⟨#[]⟩, .int .i64 0, .int .i64 0] : Array Value) rfl rfl ?_ recInfoS (by kernel_rfl) ?_; exact gx1_0.there 15 (Nat.le_refl _)) | (refine wpList_store_mid rfl 39 (.tmp 13) (.tmp 55) rfl (w4.heap.size + 1 + 1) 0 (#[.int .i64 0, .string ⟨#[]⟩, .string ⟨#[]⟩, .bool false, .int .i64 0, .slice sa 0 sc, .slice fa 0 fc, .string ⟨#[]⟩, .string ⟨#[]⟩, .int .i64 0, .int .i64 0, .int .i64 0, .string ⟨#[]⟩, .int .i64 0, .int .i64 0] : Array Value) rfl rfl ?_ recInfoS (by kernel_rfl) ?_; exact gx2_1.there 15 (Nat.le_refl _); clear hs; generalize hG : World.setCells (World.setCells (World.setCells _ _ _ _) _ _ _) _ _ _ = w5 at *; clear hG))
          refine (awakeI C _).mono ?_
          rintro ev w6 ⟨rfl, hs⟩
          have L7 := Lib.hid (L6.out.below hs)
          have B7 := Lib.hid (B6.out.trans (hs.mono B6.out.size))
          have X5 := Lib.hid (X4.out.below hs)
          have E4 := Lib.hid (E3.out.below hs)
          have V3 := Lib.hid (V2.out.below hs)
          clear L6 B6 X4 E3 V2
          clear hs
          go_wp2
          go_ret
          exact ⟨rfl, B7.out⟩
    · go_wp2_with fail
      refine (awakeI C _).mono ?_
      rintro ev w2 ⟨rfl, hs⟩
      have L2 := Lib.hid (L1.out.below hs)
      have B2 := Lib.hid (B1.out.trans (hs.mono B1.out.size))
      clear L1 B1
      clear hs
      go_wp2
      go_ret
      exact ⟨rfl, B2.out⟩
end Go.Proofs.Ytkkmfacngmginaa
