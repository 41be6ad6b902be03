/- A step done in both arenas (verb 1): does, by a contract. -/
import Derived.Test.YtndlpmdgegodpaaDoorArDu
namespace Go.Proofs.YtndlpmdgegodpaaDoor
open Go.RowKit

set_option maxRecDepth 100000 in
set_option maxHeartbeats 4000000 in
theorem does1 (C : ArC) (W w : World) (a : Addr) (S : Nat → Prop) (n l : Nat) (us : List PuD) (v : Value) (d : DoD) (tv : Value) (told : List Rf) (hD : Du C W w a S n l (us.map PuD.pt) us v) (hK : Kin W d.rv d.en d.rows d.ents) (hnn : 0 ≤ d.nn ∧ d.nn < 256) (ht : SV lRef w tv told) (htl : told.length ≤ 60) (hul : us.length ≤ 900) (hn4 : n ≤ 4096) (hl4 : l ≤ 1099511627776) (hg : Ea.Glob W) (hvb : d.verb = 1) :
    Calls Tryd.prog 9 #[.pointer (some a), refA n l v, doVal d.verb d.sc d.rv d.en d.x d.y d.last d.nn, tv] w (DoesP C W w a S n l us v) := by
  have HV := Lib.hid hvb
  clear hvb
  have hnot : ∀ (x : Bool) (w : World), (Op.unary .not (.bool x)).run Tryd.prog w = .ok (.bool (!x)) w := fun _ _ => rfl
  obtain ⟨va, vc, rfl, hlc, hcm⟩ := hD.own.sv.lenform
  obtain ⟨N, hN⟩ : ∃ N, us.length = N := ⟨_, rfl⟩
  obtain ⟨ta, tc, rfl, htc, -⟩ := ht.lenform
  obtain ⟨tl, htl2⟩ : ∃ x, told.length = x := ⟨_, rfl⟩
  have LN := Lib.hid (show us.length = N ∧ N ≤ 900 ∧ n ≤ 4096 ∧ l ≤ 1099511627776 from ⟨hN, hN ▸ hul, hn4, hl4⟩)
  have TL := Lib.hid (show told.length = tl ∧ tl ≤ 60 from ⟨htl2, htl2 ▸ htl⟩)
  have HK := Lib.hid hK
  have G := Lib.hid hg
  have U := Lib.hid hnn
  rw [hN] at hD hlc ⊢
  rw [htl2] at ht htc ⊢
  have DD := Lib.hid hD
  have TT := Lib.hid (ht.below (startW_below w n l (.slice va N vc) d (.cells #[.int .i64 d.x, .int .i64 d.y] 38)))
  have F0 := Lib.hid (Fd.start hD d)
  have DB0 := Lib.hid (startW_db w n l (.slice va N vc) d)
  have EW := Lib.hid (show startW w n l (.slice va N vc) d = _ from rfl)
  have v16 := DB0.out.c16
  have v17 := DB0.out.c17
  unfold startW doObj at v16 v17
  clear hD hK hnn ht htl hul hn4 hl4 hg hN htl2 hlc hcm htc
  unfold refA doVal DoD.rv DoD.en
  go_enter Tryd.func9, Tryd.ntmps9
  go_upto_region 2 with fail
  generalize hdv : Value.agg #[.int .i64 d.verb, .int .i64 d.sc.kind, .string d.sc.low, .string d.sc.high, .bool d.sc.unb, .int .i64 d.sc.right, .slice d.ra d.rows.length d.rc, .slice d.ea d.ents.length d.ec, .string d.sc.key, .string d.sc.value, .int .i64 d.sc.page, .int .i64 d.sc.hp, .int .i64 d.sc.hl, .string d.sc.hk, .int .i64 d.sc.ns, .int .i64 d.sc.ng, .int .i64 d.x, .int .i64 d.y, .bool d.last, .int .u8 d.nn] = dv
  clear hdv
  clear v16 v17
  obtain ⟨w5, hw5⟩ : ∃ x, x = (startW w n l (.slice va N vc) d).alloc (.cells #[.int .i64 d.x, .int .i64 d.y] 38) := ⟨_, rfl⟩
  have F5 := F0
  rw [← hw5] at F5 TT
  unfold startW doObj at hw5
  rw [← hw5]
  clear hw5 F0 DB0 EW
  generalize hmm : w.heap.size = m at *
  have v18 := F5.out.kD.c18
  go_cut [36] from 30 to 36 (fun s36 wc => s36 = .bool (d.last && decide (0 < tl)) ∧ wc = w5)
  case first =>
    obtain ⟨dl, hl⟩ : ∃ x, d.last = x := ⟨_, rfl⟩
    rw [hl] at v18
    cases dl with
    | false =>
      go_wp2
      go_meet
      case rel => exact ⟨by simp [hl], rfl⟩
    | true =>
      by_cases ht : 0 < tl
      · have ht2 : (0 : Int) < (tl : Int) := by omega
        go_wp2
        go_meet
        case rel => exact ⟨by simp [hl, ht], rfl⟩
      · have ht2 : ¬ (0 : Int) < (tl : Int) := by omega
        go_wp2
        go_meet
        case rel => exact ⟨by simp [hl, ht], rfl⟩
  case rest =>
    obtain ⟨rfl, rfl⟩ := hcut
    obtain ⟨w6, hw6⟩ : ∃ x, x = wc := ⟨_, rfl⟩
    subst hw6
    clear v18
    go_upto_if 36 with fail
    go_cut [] from 36 to 49 (fun wc => ∃ px py : Int, Fd C W w wc a S S n l (us.map PuD.pt) us (.slice va N vc) (.slice va N vc) d px py m)
    case first =>
      cases hB : (d.last && decide (0 < tl)) with
      | false =>
        go_wp2
        go_meet
        case rel => exact ⟨d.x, d.y, F5.out⟩
      | true =>
        have ht : 0 < tl := by
          simp only [Bool.and_eq_true, decide_eq_true_eq] at hB
          exact hB.2
        obtain ⟨q, hq⟩ : ∃ q : Nat, d.nn = q := ⟨d.nn.toNat, by have := U.out; omega⟩
        have v19 := F5.out.kD.c19
        rw [hq] at v19
        have mb : q < 256 := by have := U.out.2; omega
        have tb : tl ≤ 60 := TL.out.2
        have hml : q % tl < tl := Nat.mod_lt _ ht
        have TV := TT
        obtain ⟨gt, go, hgt⟩ := TV.out.addr (by rw [TL.out.1]; omega)
        subst hgt
        have f0 := blk_free F5.out.kX 0
        have f1 := blk_free F5.out.kX 1
        obtain ⟨⟨p, r⟩, hpq⟩ : ∃ x, told[tl - 1 - q % tl]? = some x := ⟨_, List.getElem?_eq_getElem (by rw [TL.out.1]; omega)⟩
        have x0 := TV.out.cellAt (j := 0) hpq rfl
        have x1 := TV.out.cellAt (j := 1) hpq rfl
        simp only [lRef, Nat.add_zero] at x0 x1
        have q0 := blk_cell F5.out.kX 0
        have q1 := blk_cell F5.out.kX 1
        clear hq hpq
        go_wp2
        go_meet
        case rel => exact ⟨p, r, F5.out.setX (fun k hk => by have := (DD.out.own.bounds k hk).2; omega) p r⟩
    case rest =>
      obtain ⟨px, py, hF⟩ := hcut
      obtain ⟨w7, hw7⟩ : ∃ x, x = wc := ⟨_, rfl⟩
      subst hw7
      have F7 := Lib.hid hF
      clear hF F5 TT
      have v0 := F7.out.kD.c0
      rw [HV.out] at v0
      have x0 := blk_cell F7.out.kX 0
      have x1 := blk_cell F7.out.kX 1
      have fc := C.load a S n l (us.map PuD.pt) px py w7 F7.out.du.inv
      have KL := Lib.hid (kin_load (n := n) F7.out.du.kin px py)
      obtain ⟨rec, hrec⟩ : ∃ r, loadM n (us.map PuD.pt) px py = r := ⟨_, rfl⟩
      obtain ⟨c, hc⟩ : ∃ c, codeM n (us.map PuD.pt) px py = c := ⟨_, rfl⟩
      obtain ⟨e, he⟩ : ∃ e, errV c = e := ⟨_, rfl⟩
      have EE := Lib.hid he
      rw [hrec] at fc KL
      rw [hc, he] at fc
      unfold refV at fc
      obtain ⟨P, hP⟩ : ∃ x, rec.rows.length = x := ⟨_, rfl⟩
      obtain ⟨Q, hQ⟩ : ∃ x, rec.ents.length = x := ⟨_, rfl⟩
      have LK := Lib.hid hP
      have LE := Lib.hid hQ
      have PB := Lib.hid (show P ≤ 60 from hP ▸ KL.out.1)
      have SM := Lib.hid KL.out.2.2
      have K60 := Lib.hid (show rec.rows.length ≤ 1000 ∧ rec.ents.length ≤ 1000 from ⟨by have := KL.out.1; omega, by have := KL.out.2.1; omega⟩)
      clear hP hQ he
      go_wp2_with fail
      refine fc.mono ?_
      rintro ev w8 ⟨rv, en, rfl, o1, o2, hs⟩
      obtain ⟨xa, xc, rfl, -, hxm⟩ := o1.lenN LK.out
      obtain ⟨ya, yc, rfl, -, -⟩ := o2.lenN LE.out
      unfold maxLen at hxm
      unfold recVal
      have b9 := alloc_below0 w8 (recObj rec.sc (.slice xa P xc) (.slice ya Q yc))
      have T9 := Lib.hid (RB.new rec.sc (.slice xa P xc) (.slice ya Q yc) w8)
      obtain ⟨w9, hw9⟩ : ∃ W, W = w8.alloc (recObj rec.sc (.slice xa P xc) (.slice ya Q yc)) := ⟨_, rfl⟩
      rw [← hw9] at b9 T9
      unfold recObj at hw9
      have BB := hs.trans (b9.mono hs.size)
      have F9 := Lib.hid (F7.out.step BB)
      have X9 := Lib.hid (o1.below b9)
      have Y9 := Lib.hid (o2.below b9)
      have TN9 := Lib.hid (show w7.heap.size ≤ w8.heap.size from hs.size)
      have XL := Lib.hid (fun k (h : (Value.slice xa P xc).ownBlock = some k) => o1.bounds k h)
      have a0 := blk_cell F9.out.kA 0
      have a1 := blk_cell F9.out.kA 1
      have a2 := blk_cell F9.out.kA 2
      have fr := rf_load n l (.slice va N vc) us px py w9 F9.out.du.puts
      rw [hrec, hc] at fr
      unfold refA refV at fr
      clear v0 x0 x1 fc o1 o2 hs b9 BB hrec hc
      have x0 := blk_cell F9.out.kX 0
      have x1 := blk_cell F9.out.kX 1
      rw [hw9] at a0 a1 a2 x0 x1
      go_wp2_with fail
      rw [← hw9]
      refine fr.mono ?_
      rintro ev w10 ⟨rv2, en2, rfl, o1, o2, hs⟩
      clear hw9 a0 a1 a2 x0 x1 fr
      obtain ⟨xa2, xc2, rfl, -, -⟩ := o1.lenform
      obtain ⟨ya2, yc2, rfl, -, -⟩ := o2.lenform
      rw [LK.out] at o1 ⊢
      rw [LE.out] at o2 ⊢
      unfold recVal
      have b11 := alloc_below0 w10 (recObj rec.sc (.slice xa2 P xc2) (.slice ya2 Q yc2))
      have T11 := Lib.hid (RB.new rec.sc (.slice xa2 P xc2) (.slice ya2 Q yc2) w10)
      obtain ⟨w11, hw11⟩ : ∃ W, W = w10.alloc (recObj rec.sc (.slice xa2 P xc2) (.slice ya2 Q yc2)) := ⟨_, rfl⟩
      rw [← hw11] at b11 T11
      have BB := hs.trans (b11.mono hs.size)
      have F11 := Lib.hid (F9.out.step BB)
      have X11 := Lib.hid (X9.out.below BB)
      have Y11 := Lib.hid (Y9.out.below BB)
      have X12 := Lib.hid (o1.below b11)
      have Y12 := Lib.hid (o2.below b11)
      have S11 := Lib.hid (T9.out.step BB)
      unfold recObj at hw11
      clear o1 o2 hs b11 BB
      have d_0 := S11.out.c0
      have d_1 := S11.out.c1
      have d_2 := S11.out.c2
      have d_3 := S11.out.c3
      have d_4 := S11.out.c4
      have d_5 := S11.out.c5
      have d_6 := S11.out.c6
      have d_7 := S11.out.c7
      have d_8 := S11.out.c8
      have d_9 := S11.out.c9
      have d_10 := S11.out.c10
      have d_11 := S11.out.c11
      have d_12 := S11.out.c12
      have d_13 := S11.out.c13
      have d_14 := S11.out.c14
      have f_0 := T11.out.c0
      have f_1 := T11.out.c1
      have f_2 := T11.out.c2
      have f_3 := T11.out.c3
      have f_4 := T11.out.c4
      have f_5 := T11.out.c5
      have f_6 := T11.out.c6
      have f_7 := T11.out.c7
      have f_8 := T11.out.c8
      have f_9 := T11.out.c9
      have f_10 := T11.out.c10
      have f_11 := T11.out.c11
      have f_12 := T11.out.c12
      have f_13 := T11.out.c13
      have f_14 := T11.out.c14
      rw [hw11] at d_0 d_1 d_2 d_3 d_4 d_5 d_6 d_7 d_8 d_9 d_10 d_11 d_12 d_13 d_14 f_0 f_1 f_2 f_3 f_4 f_5 f_6 f_7 f_8 f_9 f_10 f_11 f_12 f_13 f_14
      have fs := same_rec _ _ rec w11 ⟨_, _, rfl, X11.out.sv, Y11.out.sv⟩ ⟨_, _, rfl, X12.out, Y12.out⟩ K60.out.1 K60.out.2
      go_wp2_with fail
      rw [← hw11]
      refine fs.mono ?_
      rintro ev w12 ⟨rfl, hs⟩
      have F12 := Lib.hid (F11.out.step hs)
      have X12 := Lib.hid (X11.out.below hs)
      have S12 := Lib.hid (S11.out.step hs)
      have q2 : (c == c) = true := by simp
      have fcode := fun w h => code_of c w h
      rw [EE.out] at fcode
      clear hs fs hw11
      clear d_0 d_1 d_2 d_3 d_4 d_5 d_6 d_7 d_8 d_9 d_10 d_11 d_12 d_13 d_14
      clear f_0 f_1 f_2 f_3 f_4 f_5 f_6 f_7 f_8 f_9 f_10 f_11 f_12 f_13 f_14
      go_wp2_with fail
      refine (fcode _ (Ea.Glob.below F12.out.du.low G.out)).mono ?_
      rintro ev w13 ⟨rfl, hs⟩
      have F13 := Lib.hid (F12.out.step hs)
      have XS := Lib.hid (X12.out.below hs)
      have TS := Lib.hid (S12.out.step hs)
      have TN := Lib.hid True.intro
      have FT := Lib.hid (fun k (h : S k) => C.foot F7.out.du.inv k h)
      have Z7 := Lib.hid F7.out.size
      have VB := Lib.hid F7.out.du.own.bounds
      clear hs fcode
      have t5 := TS.out.c5
      go_wp2
      go_loopg [131] P (fun r i wz => ∃ k : Nat, k + r = P ∧ i = .int .i64 k ∧ OwnS lRow w7.heap.size wz (.slice xa P xc) (turned addK rec.rows k) ∧ Kept (fun k => (Value.slice xa P xc).ownBlock = some k) w13 wz)
      case atStart => exact ⟨0, by omega, rfl, by rw [turned_zero]; exact XS.out, Kept.refl _ _⟩
      case round =>
        obtain ⟨k, hk, rfl, hO, hK⟩ := hrel
        have A := Lib.hid (show OwnS lRow w7.heap.size wr (.slice xa P xc) (turned addK rec.rows k) ∧ Kept (fun k => (Value.slice xa P xc).ownBlock = some k) w13 wr ∧ k + gk = P from ⟨hO, hK, hk⟩)
        clear hO hK t5
        have t5 := (TS.out.kept A.out.2.1 (fun h => by have := XL.out _ h; have := TN.out; omega)).c5
        by_cases hlt : k < P
        · obtain ⟨g, hxv⟩ := A.out.1.addrN (by omega)
          subst hxv
          obtain ⟨⟨p, q⟩, hx⟩ : ∃ x, rec.rows[k]? = some x := ⟨_, List.getElem?_eq_getElem (by rw [LK.out]; exact hlt)⟩
          have y0 := A.out.1.sv.cellAt (j := 0) (turned_at addK hx) rfl
          simp only [lRow, Nat.zero_add, Nat.add_zero] at y0
          have z0 := A.out.1.free (k * 2)
          have S1 := Lib.hid (show OwnS lRow w7.heap.size (wr.setCell ⟨g, k * 2, none⟩ (.string (p ++ ⟨#[120]⟩))) (.slice (some ⟨g, 0, none⟩) P xc) (turned addK rec.rows (k + 1)) by rw [turned_set addK hx]; exact A.out.1.set (turned_at addK hx) (j := 0) (by decide) rfl)
          have S2 := Lib.hid (A.out.2.1.setCellB (k * 2) (.string (p ++ ⟨#[120]⟩)))
          have hsz : p.size ≤ 140737488351232 := (SM.out _ (List.mem_of_getElem? hx)).1
          clear hx
          have i1 : (0 : Int) ≤ (k : Int) := by omega
          have i2 : (k : Int) < (P : Int) := by omega
          have i3 : IntKind.i64.wrap ((k : Int) + 1) = (k : Int) + 1 := Go.IntWalk.i64_in _ (by have := PB.out; omega)
          go_wp2
          go_roundg (P - (k + 1))
          case measure => have := A.out.2.2; omega
          case rel => exact ⟨k + 1, by omega, by go_num, S1.out, S2.out⟩
        · have hkn : k = P := by omega
          obtain ⟨wm, hwm⟩ : ∃ wm, wm = wr := ⟨_, rfl⟩
          subst hwm
          clear t5
          have F14 := Lib.hid (F13.out.other A.out.2.1 (fun k q => by have := XL.out k q; have := Z7.out; omega) (fun k s q => by have := XL.out k q; have := FT.out k s; omega) (fun k h q => by have := XL.out k q; have := VB.out k h; omega))
          have a0 := blk_cell F14.out.kA 0
          have a1 := blk_cell F14.out.kA 1
          have a2 := blk_cell F14.out.kA 2
          obtain ⟨s0, s1, s2, s3, s4, s5, -⟩ := three_facts F14.out.kZ (.int .i64 n) (.int .i64 l) (.slice va N vc)
          obtain ⟨t0, t1, t2, t3, -⟩ := two_facts (blk_off (blk_off (blk_off F14.out.kO (b := m + 1 + 1) (by omega) 0 (.int .i64 n)) (b := m + 1 + 1) (by omega) 1 (.int .i64 l)) (b := m + 1 + 1) (by omega) 2 (.slice va N vc)) (.int .i64 0) (.int .i64 0)
          go_wp2
          exact does_end F14.out rfl (Nat.le_succ _) (.inl rfl) rfl rfl rfl rfl
end Go.Proofs.YtndlpmdgegodpaaDoor
