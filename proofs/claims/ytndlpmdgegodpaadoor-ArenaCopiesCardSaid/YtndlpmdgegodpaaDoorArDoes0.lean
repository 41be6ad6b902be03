/- A step done in both arenas (verb 0): does, by a contract. -/
import Derived.Test.YtndlpmdgegodpaaDoorArDu
namespace Go.Proofs.YtndlpmdgegodpaaDoor
open Go.RowKit

set_option maxRecDepth 100000 in
set_option maxHeartbeats 4000000 in
theorem does0 (C : ArC) (W w : World) (a : Addr) (S : Nat → Prop) (n l : Nat) (us : List PuD) (v : Value) (d : DoD) (tv : Value) (told : List Rf) (hD : Du C W w a S n l (us.map PuD.pt) us v) (hK : Kin W d.rv d.en d.rows d.ents) (hnn : 0 ≤ d.nn ∧ d.nn < 256) (ht : SV lRef w tv told) (htl : told.length ≤ 60) (hul : us.length ≤ 900) (hn4 : n ≤ 4096) (hl4 : l ≤ 1099511627776) (hg : Ea.Glob W) (hvb : d.verb = 0) :
    Calls Tryd.prog 9 #[.pointer (some a), refA n l v, doVal d.verb d.sc d.rv d.en d.x d.y d.last d.nn, tv] w (DoesP C W w a S n l us v) := by
  have HV := Lib.hid hvb
  clear hvb
  have hnot : ∀ (x : Bool) (w : World), (Op.unary .not (.bool x)).run Tryd.prog w = .ok (.bool (!x)) w := fun _ _ => rfl
  obtain ⟨va, vc, rfl, hlc, hcm⟩ := hD.own.sv.lenform
  obtain ⟨N, hN⟩ : ∃ N, us.length = N := ⟨_, rfl⟩
  obtain ⟨ta, tc, rfl, htc, -⟩ := ht.lenform
  obtain ⟨tl, htl2⟩ : ∃ x, told.length = x := ⟨_, rfl⟩
  have LN := Lib.hid (show us.length = N ∧ N ≤ 900 ∧ n ≤ 4096 ∧ l ≤ 1099511627776 from ⟨hN, hN ▸ hul, hn4, hl4⟩)
  have TL := Lib.hid (show told.length = tl ∧ tl ≤ 60 from ⟨htl2, htl2 ▸ htl⟩)
  have HK := Lib.hid hK
  have G := Lib.hid hg
  have U := Lib.hid hnn
  rw [hN] at hD hlc ⊢
  rw [htl2] at ht htc ⊢
  have DD := Lib.hid hD
  have TT := Lib.hid (ht.below (startW_below w n l (.slice va N vc) d (.cells #[.int .i64 d.x, .int .i64 d.y] 38)))
  have F0 := Lib.hid (Fd.start hD d)
  have DB0 := Lib.hid (startW_db w n l (.slice va N vc) d)
  have EW := Lib.hid (show startW w n l (.slice va N vc) d = _ from rfl)
  have v16 := DB0.out.c16
  have v17 := DB0.out.c17
  unfold startW doObj at v16 v17
  clear hD hK hnn ht htl hul hn4 hl4 hg hN htl2 hlc hcm htc
  unfold refA doVal DoD.rv DoD.en
  go_enter Tryd.func9, Tryd.ntmps9
  go_upto_region 2 with fail
  generalize hdv : Value.agg #[.int .i64 d.verb, .int .i64 d.sc.kind, .string d.sc.low, .string d.sc.high, .bool d.sc.unb, .int .i64 d.sc.right, .slice d.ra d.rows.length d.rc, .slice d.ea d.ents.length d.ec, .string d.sc.key, .string d.sc.value, .int .i64 d.sc.page, .int .i64 d.sc.hp, .int .i64 d.sc.hl, .string d.sc.hk, .int .i64 d.sc.ns, .int .i64 d.sc.ng, .int .i64 d.x, .int .i64 d.y, .bool d.last, .int .u8 d.nn] = dv
  clear hdv
  clear v16 v17
  obtain ⟨w5, hw5⟩ : ∃ x, x = (startW w n l (.slice va N vc) d).alloc (.cells #[.int .i64 d.x, .int .i64 d.y] 38) := ⟨_, rfl⟩
  have F5 := F0
  rw [← hw5] at F5 TT
  unfold startW doObj at hw5
  rw [← hw5]
  clear hw5 F0 DB0 EW
  generalize hmm : w.heap.size = m at *
  have v18 := F5.out.kD.c18
  go_cut [36] from 30 to 36 (fun s36 wc => s36 = .bool (d.last && decide (0 < tl)) ∧ wc = w5)
  case first =>
    obtain ⟨dl, hl⟩ : ∃ x, d.last = x := ⟨_, rfl⟩
    rw [hl] at v18
    cases dl with
    | false =>
      go_wp2
      go_meet
      case rel => exact ⟨by simp [hl], rfl⟩
    | true =>
      by_cases ht : 0 < tl
      · have ht2 : (0 : Int) < (tl : Int) := by omega
        go_wp2
        go_meet
        case rel => exact ⟨by simp [hl, ht], rfl⟩
      · have ht2 : ¬ (0 : Int) < (tl : Int) := by omega
        go_wp2
        go_meet
        case rel => exact ⟨by simp [hl, ht], rfl⟩
  case rest =>
    obtain ⟨rfl, rfl⟩ := hcut
    obtain ⟨w6, hw6⟩ : ∃ x, x = wc := ⟨_, rfl⟩
    subst hw6
    clear v18
    go_upto_if 36 with fail
    go_cut [] from 36 to 49 (fun wc => ∃ px py : Int, Fd C W w wc a S S n l (us.map PuD.pt) us (.slice va N vc) (.slice va N vc) d px py m)
    case first =>
      cases hB : (d.last && decide (0 < tl)) with
      | false =>
        go_wp2
        go_meet
        case rel => exact ⟨d.x, d.y, F5.out⟩
      | true =>
        have ht : 0 < tl := by
          simp only [Bool.and_eq_true, decide_eq_true_eq] at hB
          exact hB.2
        obtain ⟨q, hq⟩ : ∃ q : Nat, d.nn = q := ⟨d.nn.toNat, by have := U.out; omega⟩
        have v19 := F5.out.kD.c19
        rw [hq] at v19
        have mb : q < 256 := by have := U.out.2; omega
        have tb : tl ≤ 60 := TL.out.2
        have hml : q % tl < tl := Nat.mod_lt _ ht
        have TV := TT
        obtain ⟨gt, go, hgt⟩ := TV.out.addr (by rw [TL.out.1]; omega)
        subst hgt
        have f0 := blk_free F5.out.kX 0
        have f1 := blk_free F5.out.kX 1
        obtain ⟨⟨p, r⟩, hpq⟩ : ∃ x, told[tl - 1 - q % tl]? = some x := ⟨_, List.getElem?_eq_getElem (by rw [TL.out.1]; omega)⟩
        have x0 := TV.out.cellAt (j := 0) hpq rfl
        have x1 := TV.out.cellAt (j := 1) hpq rfl
        simp only [lRef, Nat.add_zero] at x0 x1
        have q0 := blk_cell F5.out.kX 0
        have q1 := blk_cell F5.out.kX 1
        clear hq hpq
        go_wp2
        go_meet
        case rel => exact ⟨p, r, F5.out.setX (fun k hk => by have := (DD.out.own.bounds k hk).2; omega) p r⟩
    case rest =>
      obtain ⟨px, py, hF⟩ := hcut
      obtain ⟨w7, hw7⟩ : ∃ x, x = wc := ⟨_, rfl⟩
      subst hw7
      have F7 := Lib.hid hF
      clear hF F5 TT
      have v0 := F7.out.kD.c0
      rw [HV.out] at v0
      have d_1 := F7.out.kD.c1
      have d_2 := F7.out.kD.c2
      have d_3 := F7.out.kD.c3
      have d_4 := F7.out.kD.c4
      have d_5 := F7.out.kD.c5
      have d_6 := F7.out.kD.c6
      have d_7 := F7.out.kD.c7
      have d_8 := F7.out.kD.c8
      have d_9 := F7.out.kD.c9
      have d_10 := F7.out.kD.c10
      have d_11 := F7.out.kD.c11
      have d_12 := F7.out.kD.c12
      have d_13 := F7.out.kD.c13
      have d_14 := F7.out.kD.c14
      have d_15 := F7.out.kD.c15
      obtain ⟨P, hP⟩ : ∃ x, d.rows.length = x := ⟨_, rfl⟩
      obtain ⟨Q, hQ⟩ : ∃ x, d.ents.length = x := ⟨_, rfl⟩
      have LK := Lib.hid hP
      have LE := Lib.hid hQ
      have PB := Lib.hid (show P ≤ 60 from hP ▸ HK.out.2.2.1)
      have SM := Lib.hid HK.out.2.2.2.2
      have K60 := Lib.hid (show d.rows.length ≤ 1000 ∧ d.ents.length ≤ 1000 from ⟨by have := HK.out.2.2.1; omega, by have := HK.out.2.2.2.1; omega⟩)
      clear hP hQ
      go_wp2_with fail
      refine (C.clone _ ⟨d.sc, d.rows, d.ents⟩ w7 ⟨_, _, rfl, HK.out.1.below F7.out.du.low, HK.out.2.1.below F7.out.du.low⟩ K60.out.1 K60.out.2).mono ?_
      rintro ev w8 ⟨rv, en, rfl, o1, o2, hs⟩
      have o1 : OwnS lRow w7.heap.size w8 rv d.rows := o1
      have o2 : OwnS lEnt w7.heap.size w8 en d.ents := o2
      obtain ⟨xa, xc, rfl, -, hxm⟩ := o1.lenN LK.out
      obtain ⟨ya, yc, rfl, -, -⟩ := o2.lenN LE.out
      unfold maxLen at hxm
      unfold recVal
      have b9 := alloc_below0 w8 (recObj d.sc (.slice xa P xc) (.slice ya Q yc))
      have T9 := Lib.hid (RB.new d.sc (.slice xa P xc) (.slice ya Q yc) w8)
      obtain ⟨w9, hw9⟩ : ∃ W, W = w8.alloc (recObj d.sc (.slice xa P xc) (.slice ya Q yc)) := ⟨_, rfl⟩
      rw [← hw9] at b9 T9
      unfold recObj at hw9
      have BB := hs.trans (b9.mono hs.size)
      have F9 := Lib.hid (F7.out.step BB)
      have X9 := Lib.hid (o1.below b9)
      have Y9 := Lib.hid (o2.below b9)
      have Z8 := Lib.hid (show w7.heap.size ≤ w8.heap.size ∧ w8.heap.size ≤ w9.heap.size from ⟨hs.size, b9.size⟩)
      have XL := Lib.hid (fun k (h : (Value.slice xa P xc).ownBlock = some k) => o1.bounds k h)
      have FT := Lib.hid (fun k (h : S k) => C.foot F7.out.du.inv k h)
      clear v0 o1 o2 hs b9 BB d_1 d_2 d_3 d_4 d_5 d_6 d_7 d_8 d_9 d_10 d_11 d_12 d_13 d_14 d_15
      have d_0 := T9.out.c0
      have d_1 := T9.out.c1
      have d_2 := T9.out.c2
      have d_3 := T9.out.c3
      have d_4 := T9.out.c4
      have d_5 := T9.out.c5
      have d_6 := T9.out.c6
      have d_7 := T9.out.c7
      have d_8 := T9.out.c8
      have d_9 := T9.out.c9
      have d_10 := T9.out.c10
      have d_11 := T9.out.c11
      have d_12 := T9.out.c12
      have d_13 := T9.out.c13
      have d_14 := T9.out.c14
      rw [hw9] at d_0 d_1 d_2 d_3 d_4 d_5 d_6 d_7 d_8 d_9 d_10 d_11 d_12 d_13 d_14
      go_wp2_with fail
      rw [← hw9]
      refine (C.alloc a _ S n l (us.map PuD.pt) ⟨d.sc, d.rows, d.ents⟩ w9 F9.out.du.inv ⟨_, _, rfl, X9.out.sv, Y9.out.sv⟩ K60.out.1 K60.out.2).mono ?_
      rintro ev w10 ⟨S10, rfl, hI, hk, hS⟩
      have F10 := Lib.hid (F9.out.turn hI hk hS)
      have X10 := Lib.hid (X9.out.kept hk (X9.out.out fun k h => FT.out k h))
      have T10 := Lib.hid (T9.out.kept hk (fun h => by have := FT.out _ h; have := Z8.out; omega))
      have SN := Lib.hid (show ∀ k, S10 k → k < w7.heap.size ∨ w8.heap.size ≤ k from fun k h => (hS k h).elim (fun h => .inl (FT.out k h)) (fun h => .inr (by have := Z8.out; omega)))
      have Z10 := Lib.hid (show w9.heap.size ≤ w10.heap.size from hk.size)
      obtain ⟨i, hi⟩ : ∃ i : Nat, (allocM n l (us.map PuD.pt)).1 = i := ⟨_, rfl⟩
      obtain ⟨g, hgg⟩ : ∃ i : Nat, (allocM n l (us.map PuD.pt)).2.1 = i := ⟨_, rfl⟩
      obtain ⟨c, hc⟩ : ∃ i : Int, (allocM n l (us.map PuD.pt)).2.2 = i := ⟨_, rfl⟩
      obtain ⟨e, he⟩ : ∃ e, errV c = e := ⟨_, rfl⟩
      rw [hi, hgg, hc, he]
      have EE := Lib.hid he
      have AM := Lib.hid (show _ ∧ _ ∧ _ from ⟨hi, hgg, hc⟩)
      unfold refV
      have b11 := alloc_below0 w10 (.cells #[.int .i64 i, .int .i64 g] 38)
      have k11 := blk_new w10 (.cells #[.int .i64 i, .int .i64 g] 38)
      obtain ⟨w11, hw11⟩ : ∃ W, W = w10.alloc (.cells #[.int .i64 i, .int .i64 g] 38) := ⟨_, rfl⟩
      rw [← hw11] at b11 k11
      have F11 := Lib.hid (F10.out.step b11)
      have XS := Lib.hid (X10.out.below b11)
      have TS := Lib.hid (T10.out.step b11)
      have KR := Lib.hid (show XK w10.heap.size i g w11 from k11)
      have TN := Lib.hid True.intro
      have Z7 := Lib.hid F7.out.size
      have VB := Lib.hid F7.out.du.own.bounds
      clear hI hk hS hi hgg hc he b11 k11 hw9 d_0 d_1 d_2 d_3 d_4 d_5 d_6 d_7 d_8 d_9 d_10 d_11 d_12 d_13 d_14
      have t5 := TS.out.c5
      rw [hw11] at t5
      go_wp2
      rw [← hw11]
      go_loopg [66] P (fun r i wz => ∃ k : Nat, k + r = P ∧ i = .int .i64 k ∧ OwnS lRow w7.heap.size wz (.slice xa P xc) (turned addK d.rows k) ∧ Kept (fun k => (Value.slice xa P xc).ownBlock = some k) w11 wz)
      case atStart => exact ⟨0, by omega, rfl, by rw [turned_zero]; exact XS.out, Kept.refl _ _⟩
      case round =>
        obtain ⟨k, hk, rfl, hO, hK⟩ := hrel
        have A := Lib.hid (show OwnS lRow w7.heap.size wr (.slice xa P xc) (turned addK d.rows k) ∧ Kept (fun k => (Value.slice xa P xc).ownBlock = some k) w11 wr ∧ k + gk = P from ⟨hO, hK, hk⟩)
        clear hO hK t5
        have t5 := (TS.out.kept A.out.2.1 (fun h => by have := XL.out _ h; have := TN.out; omega)).c5
        by_cases hlt : k < P
        · obtain ⟨g, hxv⟩ := A.out.1.addrN (by omega)
          subst hxv
          obtain ⟨⟨p, q⟩, hx⟩ : ∃ x, d.rows[k]? = some x := ⟨_, List.getElem?_eq_getElem (by rw [LK.out]; exact hlt)⟩
          have y0 := A.out.1.sv.cellAt (j := 0) (turned_at addK hx) rfl
          simp only [lRow, Nat.zero_add, Nat.add_zero] at y0
          have z0 := A.out.1.free (k * 2)
          have S1 := Lib.hid (show OwnS lRow w7.heap.size (wr.setCell ⟨g, k * 2, none⟩ (.string (p ++ ⟨#[120]⟩))) (.slice (some ⟨g, 0, none⟩) P xc) (turned addK d.rows (k + 1)) by rw [turned_set addK hx]; exact A.out.1.set (turned_at addK hx) (j := 0) (by decide) rfl)
          have S2 := Lib.hid (A.out.2.1.setCellB (k * 2) (.string (p ++ ⟨#[120]⟩)))
          have hsz : p.size ≤ 140737488351232 := (SM.out _ (List.mem_of_getElem? hx)).1
          clear hx
          have i1 : (0 : Int) ≤ (k : Int) := by omega
          have i2 : (k : Int) < (P : Int) := by omega
          have i3 : IntKind.i64.wrap ((k : Int) + 1) = (k : Int) + 1 := Go.IntWalk.i64_in _ (by have := PB.out; omega)
          go_wp2
          go_roundg (P - (k + 1))
          case measure => have := A.out.2.2; omega
          case rel => exact ⟨k + 1, by omega, by go_num, S1.out, S2.out⟩
        · have hkn : k = P := by omega
          obtain ⟨wm, hwm⟩ : ∃ wm, wm = wr := ⟨_, rfl⟩
          subst hwm
          clear t5
          have F12 := Lib.hid (F11.out.other A.out.2.1 (fun k q => by have := XL.out k q; have := Z7.out; omega) (fun k s q => by have := XL.out k q; have := SN.out k s; omega) (fun k h q => by have := XL.out k q; have := VB.out k h; omega))
          have KR12 := Lib.hid (show XK w10.heap.size i g wm from blk_keep KR.out A.out.2.1 (fun q => by have := XL.out _ q; have := Z8.out; have := Z10.out; omega))
          have Z12 := Lib.hid (show w10.heap.size < wm.heap.size from (Array.getElem?_eq_some_iff.1 KR12.out).1)
          have a0 := blk_cell F12.out.kA 0
          have a1 := blk_cell F12.out.kA 1
          have a2 := blk_cell F12.out.kA 2
          have d_1 := F12.out.kD.c1
          have d_2 := F12.out.kD.c2
          have d_3 := F12.out.kD.c3
          have d_4 := F12.out.kD.c4
          have d_5 := F12.out.kD.c5
          have d_6 := F12.out.kD.c6
          have d_7 := F12.out.kD.c7
          have d_8 := F12.out.kD.c8
          have d_9 := F12.out.kD.c9
          have d_10 := F12.out.kD.c10
          have d_11 := F12.out.kD.c11
          have d_12 := F12.out.kD.c12
          have d_13 := F12.out.kD.c13
          have d_14 := F12.out.kD.c14
          have d_15 := F12.out.kD.c15
          have fr := rf_alloc n l (.slice va N vc) (recVal d.sc (.slice d.ra d.rows.length d.rc) (.slice d.ea d.ents.length d.ec)) us ⟨d.sc, d.rows, d.ents⟩ wm F12.out.du.puts ⟨_, _, rfl, HK.out.1.below F12.out.du.low, HK.out.2.1.below F12.out.du.low⟩ (by have := LN.out; omega) LN.out.2.2.1 LN.out.2.2.2
          rw [AM.out.1, AM.out.2.1, AM.out.2.2] at fr
          unfold refA refV at fr
          go_wp2_with fail
          refine fr.mono ?_
          rintro ev w13 ⟨v13, us13, rfl, hP, hps, hlen, ⟨hNew, hFrom⟩, hs⟩
          have NF := Lib.hid (hNew.far (m := w.heap.size) (by have := F12.out.wm; have := F12.out.size; omega))
          have F13 := Lib.hid (F12.out.told hs hNew (kin_put (s := d.sc) (rv := .slice d.ra d.rows.length d.rc) (en := .slice d.ea d.ents.length d.ec) (d := ⟨d.sc, d.rows, d.ents⟩) F12.out.du.kin HK.out hFrom))
          have KR13 := Lib.hid (show XK w10.heap.size i g w13 from blk_step KR12.out hs)
          have P13 := Lib.hid (show us13.map PuD.pt = _ ∧ us13.length ≤ us.length + 1 from ⟨hps, hlen⟩)
          have Z13 := Lib.hid (show wm.heap.size ≤ w13.heap.size from hs.size)
          obtain ⟨a9, c9, rfl, -, -⟩ := hP.1.lenform
          obtain ⟨N9, hN9⟩ : ∃ x, us13.length = x := ⟨_, rfl⟩
          rw [hN9] at F13 NF ⊢
          clear fr a0 a1 a2 hP hps hlen hNew hFrom hs hN9 d_1 d_2 d_3 d_4 d_5 d_6 d_7 d_8 d_9 d_10 d_11 d_12 d_13 d_14 d_15
          go_wp2_with fail
          have b14 := alloc_below0 w13 (.cells #[.int .i64 n, .int .i64 l, .slice a9 N9 c9] 29)
          have k14 := blk_new w13 (.cells #[.int .i64 n, .int .i64 l, .slice a9 N9 c9] 29)
          obtain ⟨w14, hw14⟩ : ∃ W, W = w13.alloc (.cells #[.int .i64 n, .int .i64 l, .slice a9 N9 c9] 29) := ⟨_, rfl⟩
          rw [← hw14] at b14 k14 ⊢
          have b15 := alloc_below0 w14 (.cells #[.int .i64 i, .int .i64 g] 38)
          have k15 := blk_new w14 (.cells #[.int .i64 i, .int .i64 g] 38)
          obtain ⟨w15, hw15⟩ : ∃ W, W = w14.alloc (.cells #[.int .i64 i, .int .i64 g] 38) := ⟨_, rfl⟩
          rw [← hw15] at b15 k15 ⊢
          have z14 : w14.heap.size = w13.heap.size + 1 := by rw [hw14]; simp
          rw [z14] at k15
          have F15 := Lib.hid ((F13.out.step b14).step b15)
          have NZ := Lib.hid (show m + 5 ≤ w13.heap.size ∧ m + 5 ≤ w10.heap.size from ⟨F13.out.size, F10.out.size⟩)
          have QR := blk_step (blk_step KR13.out b14) b15
          have QA := blk_step k14 b15
          obtain ⟨qa, hqa⟩ : ∃ q, w13.heap.size = q := ⟨_, rfl⟩
          obtain ⟨qr, hqr⟩ : ∃ q, w10.heap.size = q := ⟨_, rfl⟩
          rw [hqa] at QA k15 NZ ⊢
          rw [hqr] at QR NZ ⊢
          have g0 := blk_cell QA 0
          have g1 := blk_cell QA 1
          have g2 := blk_cell QA 2
          have r0 := blk_cell QR 0
          have r1 := blk_cell QR 1
          have h0 := blk_cell k15 0
          have h1 := blk_cell k15 1
          simp only [List.getElem?_toArray, List.getElem?_cons_zero, List.getElem?_cons_succ] at g0 g1 g2 r0 r1 h0 h1
          have nz0 : ¬ qa = m + 1 + 1 := by have := NZ.out; omega
          have nz1 : ¬ qa = m + 1 + 1 + 1 := by have := NZ.out; omega
          have nz2 : ¬ qr = m + 1 + 1 := by have := NZ.out; omega
          have nz3 : ¬ qr = m + 1 + 1 + 1 := by have := NZ.out; omega
          have nz4 : ¬ qa + 1 = m + 1 + 1 := by have := NZ.out; omega
          have nz5 : ¬ qa + 1 = m + 1 + 1 + 1 := by have := NZ.out; omega
          have q1 : ((i : Int) == (i : Int)) = true := by simp
          have q2 : ((g : Int) == (g : Int)) = true := by simp
          have q3 : (c == c) = true := by simp
          clear b14 b15 k14 k15 QA QR hw14 hw15 z14 hqa hqr
          have fcode := fun w h => code_of c w h
          rw [EE.out] at fcode
          by_cases hz : c = 0
          · have hE : e = .nilIface := by rw [← EE.out, hz]; rfl
            clear AM EE
            subst hE
            have q4 : (c == 0) = true := by rw [hz]; rfl
            clear hz
            have SD := Lib.hid (show (fun w' : World => w'.cell? ⟨qa, 0, none⟩ = some (.int .i64 n) ∧ w'.cell? ⟨qa, 1, none⟩ = some (.int .i64 l) ∧ w'.cell? ⟨qa, 2, none⟩ = some (.slice a9 N9 c9) ∧ w'.cell? ⟨qr, 0, none⟩ = some (.int .i64 i) ∧ w'.cell? ⟨qr, 1, none⟩ = some (.int .i64 g) ∧ w'.cell? ⟨qa + 1, 0, none⟩ = some (.int .i64 i) ∧ w'.cell? ⟨qa + 1, 1, none⟩ = some (.int .i64 g)) w15.drew from ⟨g0, g1, g2, r0, r1, h0, h1⟩)
            have fd := fcode w15.drew (Ea.Glob.below F15.out.du.low.drew G.out)
            refine AnyBut.region (fun w' => w'.cell? ⟨qa, 0, none⟩ = some (.int .i64 n) ∧ w'.cell? ⟨qa, 1, none⟩ = some (.int .i64 l) ∧ w'.cell? ⟨qa, 2, none⟩ = some (.slice a9 N9 c9) ∧ w'.cell? ⟨qr, 0, none⟩ = some (.int .i64 i) ∧ w'.cell? ⟨qr, 1, none⟩ = some (.int .i64 g) ∧ w'.cell? ⟨qa + 1, 0, none⟩ = some (.int .i64 i) ∧ w'.cell? ⟨qa + 1, 1, none⟩ = some (.int .i64 g)) 20 (by kernel_rfl) ?_
            refine AnyBut.take (i := 0) (oi := ⟨some 87, _, _, _, _, _⟩) (v := ?va0) rfl (by kernel_rfl) (by kernel_rfl) (by kernel_rfl) (by kernel_rfl) (fun _ _ _ h => h) (Or.inl ⟨by rfl, ?hya0⟩) SD.out ?resta0
            case hya0 => (intro w hSw; go_simp; try (with_reducible rfl))
            simp only [Act.put, List.setIfInBounds_toArray, List.set_cons_zero, List.set_cons_succ]
            refine AnyBut.take (i := 1) (oi := ⟨some 88, _, _, _, _, _⟩) (v := ?va1) rfl (by kernel_rfl) (by kernel_rfl) (by kernel_rfl) (by kernel_rfl) (fun _ _ _ h => h) (Or.inl ⟨by rfl, ?hya1⟩) SD.out ?resta1
            case hya1 => (intro w hSw; go_simp; try (with_reducible rfl))
            simp only [Act.put, List.setIfInBounds_toArray, List.set_cons_zero, List.set_cons_succ]
            refine AnyBut.take (i := 2) (oi := ⟨some 89, _, _, _, _, _⟩) (v := ?va2) rfl (by kernel_rfl) (by kernel_rfl) (by kernel_rfl) (by kernel_rfl) (fun _ _ _ h => h) (Or.inl ⟨by rfl, ?hya2⟩) SD.out ?resta2
            case hya2 => (intro w hSw; go_simp; try (with_reducible rfl))
            simp only [Act.put, List.setIfInBounds_toArray, List.set_cons_zero, List.set_cons_succ]
            refine AnyBut.take (i := 3) (oi := ⟨some 90, _, _, _, _, _⟩) (v := ?va3) rfl (by kernel_rfl) (by kernel_rfl) (by kernel_rfl) (by kernel_rfl) (fun _ _ _ h => h) (Or.inl ⟨by rfl, ?hya3⟩) SD.out ?resta3
            case hya3 => (intro w hSw; go_simp; try (with_reducible rfl))
            simp only [Act.put, List.setIfInBounds_toArray, List.set_cons_zero, List.set_cons_succ]
            refine AnyBut.take (i := 4) (oi := ⟨some 91, _, _, _, _, _⟩) (v := ?va4) rfl (by kernel_rfl) (by kernel_rfl) (by kernel_rfl) (by kernel_rfl) (fun _ _ _ h => h) (Or.inl ⟨by rfl, ?hya4⟩) SD.out ?resta4
            case hya4 => (intro w hSw; go_simp; try (with_reducible rfl))
            simp only [Act.put, List.setIfInBounds_toArray, List.set_cons_zero, List.set_cons_succ]
            refine AnyBut.take (i := 5) (oi := ⟨some 92, _, _, _, _, _⟩) (v := ?va5) rfl (by kernel_rfl) (by kernel_rfl) (by kernel_rfl) (by kernel_rfl) (fun _ _ _ h => h) (Or.inl ⟨by rfl, ?hya5⟩) SD.out ?resta5
            case hya5 => (intro w hSw; go_simp; try (with_reducible rfl))
            simp only [Act.put, List.setIfInBounds_toArray, List.set_cons_zero, List.set_cons_succ]
            refine AnyBut.take (i := 6) (oi := ⟨some 93, _, _, _, _, _⟩) (v := ?va6) rfl (by kernel_rfl) (by kernel_rfl) (by kernel_rfl) (by kernel_rfl) (fun _ _ _ h => h) (Or.inl ⟨by rfl, ?hya6⟩) SD.out ?resta6
            case hya6 => (intro w hSw; go_simp; try (with_reducible rfl))
            simp only [Act.put, List.setIfInBounds_toArray, List.set_cons_zero, List.set_cons_succ]
            refine AnyBut.take (i := 8) (oi := ⟨some 95, _, _, _, _, _⟩) (v := ?va8) rfl (by kernel_rfl) (by kernel_rfl) (by kernel_rfl) (by kernel_rfl) (fun _ _ _ h => h) (Or.inl ⟨by rfl, ?hya8⟩) SD.out ?resta8
            case hya8 => (intro w hSw; go_simp; try (with_reducible rfl))
            simp only [Act.put, List.setIfInBounds_toArray, List.set_cons_zero, List.set_cons_succ]
            refine AnyBut.one (i := 7) (o := ⟨some 94, _, _, _, _, _⟩) (by kernel_rfl) rfl (fun K hK => ?_)
            go_simp
            refine fd.mono ?_
            rintro e6 wx ⟨rfl, hs⟩
            have BD := Lib.hid ((Below.refl _ w15).drew.trans hs)
            have FX := Lib.hid (F15.out.step BD.out)
            have u0 := cell_step g0 BD.out
            have u1 := cell_step g1 BD.out
            have u2 := cell_step g2 BD.out
            have u3 := cell_step r0 BD.out
            have u4 := cell_step r1 BD.out
            have u5 := cell_step h0 BD.out
            have u6 := cell_step h1 BD.out
            have SX := Lib.hid (show (fun w' : World => w'.cell? ⟨qa, 0, none⟩ = some (.int .i64 n) ∧ w'.cell? ⟨qa, 1, none⟩ = some (.int .i64 l) ∧ w'.cell? ⟨qa, 2, none⟩ = some (.slice a9 N9 c9) ∧ w'.cell? ⟨qr, 0, none⟩ = some (.int .i64 i) ∧ w'.cell? ⟨qr, 1, none⟩ = some (.int .i64 g) ∧ w'.cell? ⟨qa + 1, 0, none⟩ = some (.int .i64 i) ∧ w'.cell? ⟨qa + 1, 1, none⟩ = some (.int .i64 g)) wx from ⟨u0, u1, u2, u3, u4, u5, u6⟩)
            simp only
            refine hK.out _ _ (fun _ => SX.out) ?_
            clear hs hK K fd u0 u1 u2 u3 u4 u5 u6
            try simp only [Act.put, List.setIfInBounds_toArray, List.set_cons_zero, List.set_cons_succ]
            refine AnyBut.take (i := 9) (oi := ⟨some 96, _, _, _, _, _⟩) (v := ?va9) rfl (by kernel_rfl) (by kernel_rfl) (by kernel_rfl) (by kernel_rfl) (fun _ _ _ h => h) (Or.inl ⟨by rfl, ?hya9⟩) SX.out ?resta9
            case hya9 => (intro w hSw; go_simp; try (with_reducible rfl))
            simp only [Act.put, List.setIfInBounds_toArray, List.set_cons_zero, List.set_cons_succ]
            refine AnyBut.take (i := 10) (oi := ⟨some 97, _, _, _, _, _⟩) (v := ?va10) rfl (by kernel_rfl) (by kernel_rfl) (by kernel_rfl) (by kernel_rfl) (fun _ _ _ h => h) (Or.inl ⟨by rfl, ?hya10⟩) SX.out ?resta10
            case hya10 => (intro w hSw; go_simp; try (with_reducible rfl))
            simp only [Act.put, List.setIfInBounds_toArray, List.set_cons_zero, List.set_cons_succ]
            refine AnyBut.take (i := 11) (oi := ⟨some 98, _, _, _, _, _⟩) (v := ?va11) rfl (by kernel_rfl) (by kernel_rfl) (by kernel_rfl) (by kernel_rfl) (fun _ _ _ h => h) (Or.inl ⟨by rfl, ?hya11⟩) SX.out ?resta11
            case hya11 => (intro w hSw; go_simp; try (with_reducible rfl))
            simp only [Act.put, List.setIfInBounds_toArray, List.set_cons_zero, List.set_cons_succ]
            refine AnyBut.take (i := 12) (oi := ⟨some 99, _, _, _, _, _⟩) (v := ?va12) rfl (by kernel_rfl) (by kernel_rfl) (by kernel_rfl) (by kernel_rfl) (fun _ _ _ h => h) (Or.inl ⟨by rfl, ?hya12⟩) SX.out ?resta12
            case hya12 => (intro w hSw; go_simp; try (with_reducible rfl))
            simp only [Act.put, List.setIfInBounds_toArray, List.set_cons_zero, List.set_cons_succ]
            refine AnyBut.take (i := 13) (oi := ⟨some 100, _, _, _, _, _⟩) (v := ?va13) rfl (by kernel_rfl) (by kernel_rfl) (by kernel_rfl) (by kernel_rfl) (fun _ _ _ h => h) (Or.inl ⟨by rfl, ?hya13⟩) SX.out ?resta13
            case hya13 => (intro w hSw; go_simp; try (with_reducible rfl))
            simp only [Act.put, List.setIfInBounds_toArray, List.set_cons_zero, List.set_cons_succ]
            refine AnyBut.take (i := 14) (oi := ⟨some 101, _, _, _, _, _⟩) (v := ?va14) rfl (by kernel_rfl) (by kernel_rfl) (by kernel_rfl) (by kernel_rfl) (fun _ _ _ h => h) (Or.inl ⟨by rfl, ?hya14⟩) SX.out ?resta14
            case hya14 => (intro w hSw; go_simp; try (with_reducible rfl))
            simp only [Act.put, List.setIfInBounds_toArray, List.set_cons_zero, List.set_cons_succ]
            refine AnyBut.take (i := 15) (oi := ⟨some 102, _, _, _, _, _⟩) (v := ?va15) rfl (by kernel_rfl) (by kernel_rfl) (by kernel_rfl) (by kernel_rfl) (fun _ _ _ h => h) (Or.inl ⟨by rfl, ?hya15⟩) SX.out ?resta15
            case hya15 => (intro w hSw; go_simp; try (with_reducible rfl))
            simp only [Act.put, List.setIfInBounds_toArray, List.set_cons_zero, List.set_cons_succ]
            refine AnyBut.take (i := 16) (oi := ⟨some 103, _, _, _, _, _⟩) (v := ?va16) rfl (by kernel_rfl) (by kernel_rfl) (by kernel_rfl) (by kernel_rfl) (fun _ _ _ h => h) (Or.inl ⟨by rfl, ?hya16⟩) SX.out ?resta16
            case hya16 => (intro w hSw; go_simp; try (with_reducible rfl))
            simp only [Act.put, List.setIfInBounds_toArray, List.set_cons_zero, List.set_cons_succ]
            refine AnyBut.take (i := 17) (oi := ⟨some 104, _, _, _, _, _⟩) (v := ?va17) rfl (by kernel_rfl) (by kernel_rfl) (by kernel_rfl) (by kernel_rfl) (fun _ _ _ h => h) (Or.inl ⟨by rfl, ?hya17⟩) SX.out ?resta17
            case hya17 => (intro w hSw; go_simp; try (with_reducible rfl))
            simp only [Act.put, List.setIfInBounds_toArray, List.set_cons_zero, List.set_cons_succ]
            obtain ⟨s0, s1, s2, s3, s4, s5, -⟩ := three_facts FX.out.kZ (.int .i64 n) (.int .i64 l) (.slice a9 N9 c9)
            obtain ⟨t0, t1, t2, t3, -⟩ := two_facts (blk_off (blk_off (blk_off FX.out.kO (b := m + 1 + 1) (by omega) 0 (.int .i64 n)) (b := m + 1 + 1) (by omega) 1 (.int .i64 l)) (b := m + 1 + 1) (by omega) 2 (.slice a9 N9 c9)) (.int .i64 i) (.int .i64 g)
            have k1 := (((Kept.refl (fun k => k = m + 1 + 1) wx).setCell 0 (.int .i64 n)).setCell 1 (.int .i64 l)).setCell 2 (.slice a9 N9 c9)
            have SY := Lib.hid (show (fun w' : World => w'.cell? ⟨qa, 0, none⟩ = some (.int .i64 n) ∧ w'.cell? ⟨qa, 1, none⟩ = some (.int .i64 l) ∧ w'.cell? ⟨qa, 2, none⟩ = some (.slice a9 N9 c9) ∧ w'.cell? ⟨qr, 0, none⟩ = some (.int .i64 i) ∧ w'.cell? ⟨qr, 1, none⟩ = some (.int .i64 g) ∧ w'.cell? ⟨qa + 1, 0, none⟩ = some (.int .i64 i) ∧ w'.cell? ⟨qa + 1, 1, none⟩ = some (.int .i64 g)) (((wx.setCell ⟨m + 1 + 1, 0, none⟩ (.int .i64 n)).setCell ⟨m + 1 + 1, 1, none⟩ (.int .i64 l)).setCell ⟨m + 1 + 1, 2, none⟩ (.slice a9 N9 c9)) from ⟨k1.cell nz0 SX.out.1, k1.cell nz0 SX.out.2.1, k1.cell nz0 SX.out.2.2.1, k1.cell nz2 SX.out.2.2.2.1, k1.cell nz2 SX.out.2.2.2.2.1, k1.cell nz4 SX.out.2.2.2.2.2.1, k1.cell nz4 SX.out.2.2.2.2.2.2⟩)
            have k2 := ((Kept.refl (fun k => k = m + 1 + 1 + 1) (((wx.setCell ⟨m + 1 + 1, 0, none⟩ (.int .i64 n)).setCell ⟨m + 1 + 1, 1, none⟩ (.int .i64 l)).setCell ⟨m + 1 + 1, 2, none⟩ (.slice a9 N9 c9))).setCell 0 (.int .i64 i)).setCell 1 (.int .i64 g)
            have SZ := Lib.hid (show (fun w' : World => w'.cell? ⟨qa, 0, none⟩ = some (.int .i64 n) ∧ w'.cell? ⟨qa, 1, none⟩ = some (.int .i64 l) ∧ w'.cell? ⟨qa, 2, none⟩ = some (.slice a9 N9 c9) ∧ w'.cell? ⟨qr, 0, none⟩ = some (.int .i64 i) ∧ w'.cell? ⟨qr, 1, none⟩ = some (.int .i64 g) ∧ w'.cell? ⟨qa + 1, 0, none⟩ = some (.int .i64 i) ∧ w'.cell? ⟨qa + 1, 1, none⟩ = some (.int .i64 g)) (endW wx m n l (.slice a9 N9 c9) i g) from ⟨k2.cell nz1 SY.out.1, k2.cell nz1 SY.out.2.1, k2.cell nz1 SY.out.2.2.1, k2.cell nz3 SY.out.2.2.2.1, k2.cell nz3 SY.out.2.2.2.2.1, k2.cell nz5 SY.out.2.2.2.2.2.1, k2.cell nz5 SY.out.2.2.2.2.2.2⟩)
            clear k1 k2
            refine AnyBut.one (i := 18) (o := ⟨none, _, _, _, _, _⟩) (by kernel_rfl) rfl (fun K hK => ?_)
            go_simp
            refine hK.out _ _ (fun _ => SY.out) ?_
            clear hK K
            try simp only [Act.put, List.setIfInBounds_toArray, List.set_cons_zero, List.set_cons_succ]
            refine AnyBut.one (i := 19) (o := ⟨none, _, _, _, _, _⟩) (by kernel_rfl) rfl (fun K hK => ?_)
            go_simp
            refine hK.out _ _ (fun _ => SZ.out) ?_
            clear hK K s0 s1 s2 s3 s4 s5 t0 t1 t2 t3
            try simp only [Act.put, List.setIfInBounds_toArray, List.set_cons_zero, List.set_cons_succ]
            refine AnyBut.one (i := 20) (o := ⟨some 10, _, _, _, _, _⟩) (by kernel_rfl) rfl (fun K hK => ?_)
            go_simp
            refine hK.out _ _ (fun h => absurd rfl h) ?_
            clear hK K
            try simp only [Act.put, List.setIfInBounds_toArray, List.set_cons_zero, List.set_cons_succ]
            refine AnyBut.done (by kernel_rfl) ?_ _
            go_wp2
            exact does_end FX.out P13.out.1 P13.out.2 NF.out rfl rfl rfl rfl
          · have hE : e = .iface 59 (.int .i64 c) := by rw [← EE.out]; unfold errV; rw [if_neg hz]
            clear AM EE
            subst hE
            have q4 : (c == 0) = false := beq_eq_false_iff_ne.2 hz
            clear hz
            have SD := Lib.hid (show (fun w' : World => w'.cell? ⟨qa, 0, none⟩ = some (.int .i64 n) ∧ w'.cell? ⟨qa, 1, none⟩ = some (.int .i64 l) ∧ w'.cell? ⟨qa, 2, none⟩ = some (.slice a9 N9 c9) ∧ w'.cell? ⟨qr, 0, none⟩ = some (.int .i64 i) ∧ w'.cell? ⟨qr, 1, none⟩ = some (.int .i64 g) ∧ w'.cell? ⟨qa + 1, 0, none⟩ = some (.int .i64 i) ∧ w'.cell? ⟨qa + 1, 1, none⟩ = some (.int .i64 g)) w15.drew from ⟨g0, g1, g2, r0, r1, h0, h1⟩)
            have fd := fcode w15.drew (Ea.Glob.below F15.out.du.low.drew G.out)
            refine AnyBut.region (fun w' => w'.cell? ⟨qa, 0, none⟩ = some (.int .i64 n) ∧ w'.cell? ⟨qa, 1, none⟩ = some (.int .i64 l) ∧ w'.cell? ⟨qa, 2, none⟩ = some (.slice a9 N9 c9) ∧ w'.cell? ⟨qr, 0, none⟩ = some (.int .i64 i) ∧ w'.cell? ⟨qr, 1, none⟩ = some (.int .i64 g) ∧ w'.cell? ⟨qa + 1, 0, none⟩ = some (.int .i64 i) ∧ w'.cell? ⟨qa + 1, 1, none⟩ = some (.int .i64 g)) 20 (by kernel_rfl) ?_
            refine AnyBut.take (i := 0) (oi := ⟨some 87, _, _, _, _, _⟩) (v := ?vb0) rfl (by kernel_rfl) (by kernel_rfl) (by kernel_rfl) (by kernel_rfl) (fun _ _ _ h => h) (Or.inl ⟨by rfl, ?hyb0⟩) SD.out ?restb0
            case hyb0 => (intro w hSw; go_simp; try (with_reducible rfl))
            simp only [Act.put, List.setIfInBounds_toArray, List.set_cons_zero, List.set_cons_succ]
            refine AnyBut.take (i := 1) (oi := ⟨some 88, _, _, _, _, _⟩) (v := ?vb1) rfl (by kernel_rfl) (by kernel_rfl) (by kernel_rfl) (by kernel_rfl) (fun _ _ _ h => h) (Or.inl ⟨by rfl, ?hyb1⟩) SD.out ?restb1
            case hyb1 => (intro w hSw; go_simp; try (with_reducible rfl))
            simp only [Act.put, List.setIfInBounds_toArray, List.set_cons_zero, List.set_cons_succ]
            refine AnyBut.take (i := 2) (oi := ⟨some 89, _, _, _, _, _⟩) (v := ?vb2) rfl (by kernel_rfl) (by kernel_rfl) (by kernel_rfl) (by kernel_rfl) (fun _ _ _ h => h) (Or.inl ⟨by rfl, ?hyb2⟩) SD.out ?restb2
            case hyb2 => (intro w hSw; go_simp; try (with_reducible rfl))
            simp only [Act.put, List.setIfInBounds_toArray, List.set_cons_zero, List.set_cons_succ]
            refine AnyBut.take (i := 3) (oi := ⟨some 90, _, _, _, _, _⟩) (v := ?vb3) rfl (by kernel_rfl) (by kernel_rfl) (by kernel_rfl) (by kernel_rfl) (fun _ _ _ h => h) (Or.inl ⟨by rfl, ?hyb3⟩) SD.out ?restb3
            case hyb3 => (intro w hSw; go_simp; try (with_reducible rfl))
            simp only [Act.put, List.setIfInBounds_toArray, List.set_cons_zero, List.set_cons_succ]
            refine AnyBut.take (i := 4) (oi := ⟨some 91, _, _, _, _, _⟩) (v := ?vb4) rfl (by kernel_rfl) (by kernel_rfl) (by kernel_rfl) (by kernel_rfl) (fun _ _ _ h => h) (Or.inl ⟨by rfl, ?hyb4⟩) SD.out ?restb4
            case hyb4 => (intro w hSw; go_simp; try (with_reducible rfl))
            simp only [Act.put, List.setIfInBounds_toArray, List.set_cons_zero, List.set_cons_succ]
            refine AnyBut.take (i := 5) (oi := ⟨some 92, _, _, _, _, _⟩) (v := ?vb5) rfl (by kernel_rfl) (by kernel_rfl) (by kernel_rfl) (by kernel_rfl) (fun _ _ _ h => h) (Or.inl ⟨by rfl, ?hyb5⟩) SD.out ?restb5
            case hyb5 => (intro w hSw; go_simp; try (with_reducible rfl))
            simp only [Act.put, List.setIfInBounds_toArray, List.set_cons_zero, List.set_cons_succ]
            refine AnyBut.take (i := 6) (oi := ⟨some 93, _, _, _, _, _⟩) (v := ?vb6) rfl (by kernel_rfl) (by kernel_rfl) (by kernel_rfl) (by kernel_rfl) (fun _ _ _ h => h) (Or.inl ⟨by rfl, ?hyb6⟩) SD.out ?restb6
            case hyb6 => (intro w hSw; go_simp; try (with_reducible rfl))
            simp only [Act.put, List.setIfInBounds_toArray, List.set_cons_zero, List.set_cons_succ]
            refine AnyBut.take (i := 8) (oi := ⟨some 95, _, _, _, _, _⟩) (v := ?vb8) rfl (by kernel_rfl) (by kernel_rfl) (by kernel_rfl) (by kernel_rfl) (fun _ _ _ h => h) (Or.inl ⟨by rfl, ?hyb8⟩) SD.out ?restb8
            case hyb8 => (intro w hSw; go_simp; try (with_reducible rfl))
            simp only [Act.put, List.setIfInBounds_toArray, List.set_cons_zero, List.set_cons_succ]
            refine AnyBut.one (i := 7) (o := ⟨some 94, _, _, _, _, _⟩) (by kernel_rfl) rfl (fun K hK => ?_)
            go_simp
            refine fd.mono ?_
            rintro e6 wx ⟨rfl, hs⟩
            have BD := Lib.hid ((Below.refl _ w15).drew.trans hs)
            have FX := Lib.hid (F15.out.step BD.out)
            have u0 := cell_step g0 BD.out
            have u1 := cell_step g1 BD.out
            have u2 := cell_step g2 BD.out
            have u3 := cell_step r0 BD.out
            have u4 := cell_step r1 BD.out
            have u5 := cell_step h0 BD.out
            have u6 := cell_step h1 BD.out
            have SX := Lib.hid (show (fun w' : World => w'.cell? ⟨qa, 0, none⟩ = some (.int .i64 n) ∧ w'.cell? ⟨qa, 1, none⟩ = some (.int .i64 l) ∧ w'.cell? ⟨qa, 2, none⟩ = some (.slice a9 N9 c9) ∧ w'.cell? ⟨qr, 0, none⟩ = some (.int .i64 i) ∧ w'.cell? ⟨qr, 1, none⟩ = some (.int .i64 g) ∧ w'.cell? ⟨qa + 1, 0, none⟩ = some (.int .i64 i) ∧ w'.cell? ⟨qa + 1, 1, none⟩ = some (.int .i64 g)) wx from ⟨u0, u1, u2, u3, u4, u5, u6⟩)
            simp only
            refine hK.out _ _ (fun _ => SX.out) ?_
            clear hs hK K fd u0 u1 u2 u3 u4 u5 u6
            try simp only [Act.put, List.setIfInBounds_toArray, List.set_cons_zero, List.set_cons_succ]
            refine AnyBut.take (i := 9) (oi := ⟨some 96, _, _, _, _, _⟩) (v := ?vb9) rfl (by kernel_rfl) (by kernel_rfl) (by kernel_rfl) (by kernel_rfl) (fun _ _ _ h => h) (Or.inl ⟨by rfl, ?hyb9⟩) SX.out ?restb9
            case hyb9 => (intro w hSw; go_simp; try (with_reducible rfl))
            simp only [Act.put, List.setIfInBounds_toArray, List.set_cons_zero, List.set_cons_succ]
            refine AnyBut.take (i := 10) (oi := ⟨some 97, _, _, _, _, _⟩) (v := ?vb10) rfl (by kernel_rfl) (by kernel_rfl) (by kernel_rfl) (by kernel_rfl) (fun _ _ _ h => h) (Or.inl ⟨by rfl, ?hyb10⟩) SX.out ?restb10
            case hyb10 => (intro w hSw; go_simp; try (with_reducible rfl))
            simp only [Act.put, List.setIfInBounds_toArray, List.set_cons_zero, List.set_cons_succ]
            refine AnyBut.take (i := 11) (oi := ⟨some 98, _, _, _, _, _⟩) (v := ?vb11) rfl (by kernel_rfl) (by kernel_rfl) (by kernel_rfl) (by kernel_rfl) (fun _ _ _ h => h) (Or.inl ⟨by rfl, ?hyb11⟩) SX.out ?restb11
            case hyb11 => (intro w hSw; go_simp; try (with_reducible rfl))
            simp only [Act.put, List.setIfInBounds_toArray, List.set_cons_zero, List.set_cons_succ]
            refine AnyBut.take (i := 12) (oi := ⟨some 99, _, _, _, _, _⟩) (v := ?vb12) rfl (by kernel_rfl) (by kernel_rfl) (by kernel_rfl) (by kernel_rfl) (fun _ _ _ h => h) (Or.inl ⟨by rfl, ?hyb12⟩) SX.out ?restb12
            case hyb12 => (intro w hSw; go_simp; try (with_reducible rfl))
            simp only [Act.put, List.setIfInBounds_toArray, List.set_cons_zero, List.set_cons_succ]
            refine AnyBut.take (i := 13) (oi := ⟨some 100, _, _, _, _, _⟩) (v := ?vb13) rfl (by kernel_rfl) (by kernel_rfl) (by kernel_rfl) (by kernel_rfl) (fun _ _ _ h => h) (Or.inl ⟨by rfl, ?hyb13⟩) SX.out ?restb13
            case hyb13 => (intro w hSw; go_simp; try (with_reducible rfl))
            simp only [Act.put, List.setIfInBounds_toArray, List.set_cons_zero, List.set_cons_succ]
            refine AnyBut.take (i := 14) (oi := ⟨some 101, _, _, _, _, _⟩) (v := ?vb14) rfl (by kernel_rfl) (by kernel_rfl) (by kernel_rfl) (by kernel_rfl) (fun _ _ _ h => h) (Or.inl ⟨by rfl, ?hyb14⟩) SX.out ?restb14
            case hyb14 => (intro w hSw; go_simp; try (with_reducible rfl))
            simp only [Act.put, List.setIfInBounds_toArray, List.set_cons_zero, List.set_cons_succ]
            refine AnyBut.take (i := 15) (oi := ⟨some 102, _, _, _, _, _⟩) (v := ?vb15) rfl (by kernel_rfl) (by kernel_rfl) (by kernel_rfl) (by kernel_rfl) (fun _ _ _ h => h) (Or.inl ⟨by rfl, ?hyb15⟩) SX.out ?restb15
            case hyb15 => (intro w hSw; go_simp; try (with_reducible rfl))
            simp only [Act.put, List.setIfInBounds_toArray, List.set_cons_zero, List.set_cons_succ]
            refine AnyBut.take (i := 16) (oi := ⟨some 103, _, _, _, _, _⟩) (v := ?vb16) rfl (by kernel_rfl) (by kernel_rfl) (by kernel_rfl) (by kernel_rfl) (fun _ _ _ h => h) (Or.inl ⟨by rfl, ?hyb16⟩) SX.out ?restb16
            case hyb16 => (intro w hSw; go_simp; try (with_reducible rfl))
            simp only [Act.put, List.setIfInBounds_toArray, List.set_cons_zero, List.set_cons_succ]
            refine AnyBut.take (i := 17) (oi := ⟨some 104, _, _, _, _, _⟩) (v := ?vb17) rfl (by kernel_rfl) (by kernel_rfl) (by kernel_rfl) (by kernel_rfl) (fun _ _ _ h => h) (Or.inl ⟨by rfl, ?hyb17⟩) SX.out ?restb17
            case hyb17 => (intro w hSw; go_simp; try (with_reducible rfl))
            simp only [Act.put, List.setIfInBounds_toArray, List.set_cons_zero, List.set_cons_succ]
            obtain ⟨s0, s1, s2, s3, s4, s5, -⟩ := three_facts FX.out.kZ (.int .i64 n) (.int .i64 l) (.slice a9 N9 c9)
            obtain ⟨t0, t1, t2, t3, -⟩ := two_facts (blk_off (blk_off (blk_off FX.out.kO (b := m + 1 + 1) (by omega) 0 (.int .i64 n)) (b := m + 1 + 1) (by omega) 1 (.int .i64 l)) (b := m + 1 + 1) (by omega) 2 (.slice a9 N9 c9)) (.int .i64 i) (.int .i64 g)
            have k1 := (((Kept.refl (fun k => k = m + 1 + 1) wx).setCell 0 (.int .i64 n)).setCell 1 (.int .i64 l)).setCell 2 (.slice a9 N9 c9)
            have SY := Lib.hid (show (fun w' : World => w'.cell? ⟨qa, 0, none⟩ = some (.int .i64 n) ∧ w'.cell? ⟨qa, 1, none⟩ = some (.int .i64 l) ∧ w'.cell? ⟨qa, 2, none⟩ = some (.slice a9 N9 c9) ∧ w'.cell? ⟨qr, 0, none⟩ = some (.int .i64 i) ∧ w'.cell? ⟨qr, 1, none⟩ = some (.int .i64 g) ∧ w'.cell? ⟨qa + 1, 0, none⟩ = some (.int .i64 i) ∧ w'.cell? ⟨qa + 1, 1, none⟩ = some (.int .i64 g)) (((wx.setCell ⟨m + 1 + 1, 0, none⟩ (.int .i64 n)).setCell ⟨m + 1 + 1, 1, none⟩ (.int .i64 l)).setCell ⟨m + 1 + 1, 2, none⟩ (.slice a9 N9 c9)) from ⟨k1.cell nz0 SX.out.1, k1.cell nz0 SX.out.2.1, k1.cell nz0 SX.out.2.2.1, k1.cell nz2 SX.out.2.2.2.1, k1.cell nz2 SX.out.2.2.2.2.1, k1.cell nz4 SX.out.2.2.2.2.2.1, k1.cell nz4 SX.out.2.2.2.2.2.2⟩)
            have k2 := ((Kept.refl (fun k => k = m + 1 + 1 + 1) (((wx.setCell ⟨m + 1 + 1, 0, none⟩ (.int .i64 n)).setCell ⟨m + 1 + 1, 1, none⟩ (.int .i64 l)).setCell ⟨m + 1 + 1, 2, none⟩ (.slice a9 N9 c9))).setCell 0 (.int .i64 i)).setCell 1 (.int .i64 g)
            have SZ := Lib.hid (show (fun w' : World => w'.cell? ⟨qa, 0, none⟩ = some (.int .i64 n) ∧ w'.cell? ⟨qa, 1, none⟩ = some (.int .i64 l) ∧ w'.cell? ⟨qa, 2, none⟩ = some (.slice a9 N9 c9) ∧ w'.cell? ⟨qr, 0, none⟩ = some (.int .i64 i) ∧ w'.cell? ⟨qr, 1, none⟩ = some (.int .i64 g) ∧ w'.cell? ⟨qa + 1, 0, none⟩ = some (.int .i64 i) ∧ w'.cell? ⟨qa + 1, 1, none⟩ = some (.int .i64 g)) (endW wx m n l (.slice a9 N9 c9) i g) from ⟨k2.cell nz1 SY.out.1, k2.cell nz1 SY.out.2.1, k2.cell nz1 SY.out.2.2.1, k2.cell nz3 SY.out.2.2.2.1, k2.cell nz3 SY.out.2.2.2.2.1, k2.cell nz5 SY.out.2.2.2.2.2.1, k2.cell nz5 SY.out.2.2.2.2.2.2⟩)
            clear k1 k2
            refine AnyBut.one (i := 18) (o := ⟨none, _, _, _, _, _⟩) (by kernel_rfl) rfl (fun K hK => ?_)
            go_simp
            refine hK.out _ _ (fun _ => SY.out) ?_
            clear hK K
            try simp only [Act.put, List.setIfInBounds_toArray, List.set_cons_zero, List.set_cons_succ]
            refine AnyBut.one (i := 19) (o := ⟨none, _, _, _, _, _⟩) (by kernel_rfl) rfl (fun K hK => ?_)
            go_simp
            refine hK.out _ _ (fun _ => SZ.out) ?_
            clear hK K s0 s1 s2 s3 s4 s5 t0 t1 t2 t3
            try simp only [Act.put, List.setIfInBounds_toArray, List.set_cons_zero, List.set_cons_succ]
            refine AnyBut.one (i := 20) (o := ⟨some 10, _, _, _, _, _⟩) (by kernel_rfl) rfl (fun K hK => ?_)
            go_simp
            refine hK.out _ _ (fun h => absurd rfl h) ?_
            clear hK K
            try simp only [Act.put, List.setIfInBounds_toArray, List.set_cons_zero, List.set_cons_succ]
            refine AnyBut.done (by kernel_rfl) ?_ _
            go_wp2
            exact does_end FX.out P13.out.1 P13.out.2 NF.out rfl rfl rfl rfl
end Go.Proofs.YtndlpmdgegodpaaDoor
