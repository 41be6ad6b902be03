/- A step done in both arenas (verb 2): does, by a contract. -/
import Derived.Test.YtndlpmdgegodpaaDoorArDu
namespace Go.Proofs.YtndlpmdgegodpaaDoor
open Go.RowKit

set_option maxRecDepth 100000 in
set_option maxHeartbeats 4000000 in
theorem does2 (C : ArC) (W w : World) (a : Addr) (S : Nat → Prop) (n l : Nat) (us : List PuD) (v : Value) (d : DoD) (tv : Value) (told : List Rf) (hD : Du C W w a S n l (us.map PuD.pt) us v) (hK : Kin W d.rv d.en d.rows d.ents) (hnn : 0 ≤ d.nn ∧ d.nn < 256) (ht : SV lRef w tv told) (htl : told.length ≤ 60) (hul : us.length ≤ 900) (hn4 : n ≤ 4096) (hl4 : l ≤ 1099511627776) (hg : Ea.Glob W) (hvb : d.verb = 2) :
    Calls Tryd.prog 9 #[.pointer (some a), refA n l v, doVal d.verb d.sc d.rv d.en d.x d.y d.last d.nn, tv] w (DoesP C W w a S n l us v) := by
  have HV := Lib.hid hvb
  clear hvb
  have hnot : ∀ (x : Bool) (w : World), (Op.unary .not (.bool x)).run Tryd.prog w = .ok (.bool (!x)) w := fun _ _ => rfl
  obtain ⟨va, vc, rfl, hlc, hcm⟩ := hD.own.sv.lenform
  obtain ⟨N, hN⟩ : ∃ N, us.length = N := ⟨_, rfl⟩
  obtain ⟨ta, tc, rfl, htc, -⟩ := ht.lenform
  obtain ⟨tl, htl2⟩ : ∃ x, told.length = x := ⟨_, rfl⟩
  have LN := Lib.hid (show us.length = N ∧ N ≤ 900 ∧ n ≤ 4096 ∧ l ≤ 1099511627776 from ⟨hN, hN ▸ hul, hn4, hl4⟩)
  have TL := Lib.hid (show told.length = tl ∧ tl ≤ 60 from ⟨htl2, htl2 ▸ htl⟩)
  have HK := Lib.hid hK
  have G := Lib.hid hg
  have U := Lib.hid hnn
  rw [hN] at hD hlc ⊢
  rw [htl2] at ht htc ⊢
  have DD := Lib.hid hD
  have TT := Lib.hid (ht.below (startW_below w n l (.slice va N vc) d (.cells #[.int .i64 d.x, .int .i64 d.y] 38)))
  have F0 := Lib.hid (Fd.start hD d)
  have DB0 := Lib.hid (startW_db w n l (.slice va N vc) d)
  have EW := Lib.hid (show startW w n l (.slice va N vc) d = _ from rfl)
  have v16 := DB0.out.c16
  have v17 := DB0.out.c17
  unfold startW doObj at v16 v17
  clear hD hK hnn ht htl hul hn4 hl4 hg hN htl2 hlc hcm htc
  unfold refA doVal DoD.rv DoD.en
  go_enter Tryd.func9, Tryd.ntmps9
  go_upto_region 2 with fail
  generalize hdv : Value.agg #[.int .i64 d.verb, .int .i64 d.sc.kind, .string d.sc.low, .string d.sc.high, .bool d.sc.unb, .int .i64 d.sc.right, .slice d.ra d.rows.length d.rc, .slice d.ea d.ents.length d.ec, .string d.sc.key, .string d.sc.value, .int .i64 d.sc.page, .int .i64 d.sc.hp, .int .i64 d.sc.hl, .string d.sc.hk, .int .i64 d.sc.ns, .int .i64 d.sc.ng, .int .i64 d.x, .int .i64 d.y, .bool d.last, .int .u8 d.nn] = dv
  clear hdv
  clear v16 v17
  obtain ⟨w5, hw5⟩ : ∃ x, x = (startW w n l (.slice va N vc) d).alloc (.cells #[.int .i64 d.x, .int .i64 d.y] 38) := ⟨_, rfl⟩
  have F5 := F0
  rw [← hw5] at F5 TT
  unfold startW doObj at hw5
  rw [← hw5]
  clear hw5 F0 DB0 EW
  generalize hmm : w.heap.size = m at *
  have v18 := F5.out.kD.c18
  go_cut [36] from 30 to 36 (fun s36 wc => s36 = .bool (d.last && decide (0 < tl)) ∧ wc = w5)
  case first =>
    obtain ⟨dl, hl⟩ : ∃ x, d.last = x := ⟨_, rfl⟩
    rw [hl] at v18
    cases dl with
    | false =>
      go_wp2
      go_meet
      case rel => exact ⟨by simp [hl], rfl⟩
    | true =>
      by_cases ht : 0 < tl
      · have ht2 : (0 : Int) < (tl : Int) := by omega
        go_wp2
        go_meet
        case rel => exact ⟨by simp [hl, ht], rfl⟩
      · have ht2 : ¬ (0 : Int) < (tl : Int) := by omega
        go_wp2
        go_meet
        case rel => exact ⟨by simp [hl, ht], rfl⟩
  case rest =>
    obtain ⟨rfl, rfl⟩ := hcut
    obtain ⟨w6, hw6⟩ : ∃ x, x = wc := ⟨_, rfl⟩
    subst hw6
    clear v18
    go_upto_if 36 with fail
    go_cut [] from 36 to 49 (fun wc => ∃ px py : Int, Fd C W w wc a S S n l (us.map PuD.pt) us (.slice va N vc) (.slice va N vc) d px py m)
    case first =>
      cases hB : (d.last && decide (0 < tl)) with
      | false =>
        go_wp2
        go_meet
        case rel => exact ⟨d.x, d.y, F5.out⟩
      | true =>
        have ht : 0 < tl := by
          simp only [Bool.and_eq_true, decide_eq_true_eq] at hB
          exact hB.2
        obtain ⟨q, hq⟩ : ∃ q : Nat, d.nn = q := ⟨d.nn.toNat, by have := U.out; omega⟩
        have v19 := F5.out.kD.c19
        rw [hq] at v19
        have mb : q < 256 := by have := U.out.2; omega
        have tb : tl ≤ 60 := TL.out.2
        have hml : q % tl < tl := Nat.mod_lt _ ht
        have TV := TT
        obtain ⟨gt, go, hgt⟩ := TV.out.addr (by rw [TL.out.1]; omega)
        subst hgt
        have f0 := blk_free F5.out.kX 0
        have f1 := blk_free F5.out.kX 1
        obtain ⟨⟨p, r⟩, hpq⟩ : ∃ x, told[tl - 1 - q % tl]? = some x := ⟨_, List.getElem?_eq_getElem (by rw [TL.out.1]; omega)⟩
        have x0 := TV.out.cellAt (j := 0) hpq rfl
        have x1 := TV.out.cellAt (j := 1) hpq rfl
        simp only [lRef, Nat.add_zero] at x0 x1
        have q0 := blk_cell F5.out.kX 0
        have q1 := blk_cell F5.out.kX 1
        clear hq hpq
        go_wp2
        go_meet
        case rel => exact ⟨p, r, F5.out.setX (fun k hk => by have := (DD.out.own.bounds k hk).2; omega) p r⟩
    case rest =>
      obtain ⟨px, py, hF⟩ := hcut
      obtain ⟨w7, hw7⟩ : ∃ x, x = wc := ⟨_, rfl⟩
      subst hw7
      have F7 := Lib.hid hF
      clear hF F5 TT
      have v0 := F7.out.kD.c0
      rw [HV.out] at v0
      have x0 := blk_cell F7.out.kX 0
      have x1 := blk_cell F7.out.kX 1
      have fc := C.free a S n l (us.map PuD.pt) px py w7 F7.out.du.inv
      unfold refV at fc
      go_wp2_with fail
      refine fc.mono ?_
      rintro ev w8 ⟨S8, rfl, hI, hk, hS⟩
      have F8 := Lib.hid (F7.out.turn hI hk hS)
      obtain ⟨c, hc⟩ : ∃ c, codeM n (us.map PuD.pt) px py = c := ⟨_, rfl⟩
      obtain ⟨e, he⟩ : ∃ e, errV c = e := ⟨_, rfl⟩
      have EE := Lib.hid he
      rw [hc, he]
      have fr := rf_free n l (.slice va N vc) us px py w8 F8.out.du.puts (by have := LN.out; omega)
      unfold refA refV at fr
      rw [hc] at fr
      have a0 := blk_cell F8.out.kA 0
      have a1 := blk_cell F8.out.kA 1
      have a2 := blk_cell F8.out.kA 2
      clear v0 x0 x1 fc hI hk hS hc he
      have x0 := blk_cell F8.out.kX 0
      have x1 := blk_cell F8.out.kX 1
      go_wp2_with fail
      refine fr.mono ?_
      rintro ev w9 ⟨v9, us9, rfl, hP, hps, hlen, ⟨hNew, hHeir⟩, hs⟩
      have NF := Lib.hid (hNew.far (m := w.heap.size) (by have := F8.out.wm; have := F8.out.size; omega))
      have F9 := Lib.hid (F8.out.told hs hNew (kin_heir F8.out.du.kin hHeir))
      have P9 := Lib.hid (show us9.map PuD.pt = _ ∧ us9.length ≤ us.length + 1 from ⟨hps, by omega⟩)
      obtain ⟨a9, c9, rfl, -, -⟩ := hP.1.lenform
      obtain ⟨N9, hN9⟩ : ∃ x, us9.length = x := ⟨_, rfl⟩
      rw [hN9] at F9 NF ⊢
      clear fr a0 a1 a2 x0 x1 hP hps hlen hNew hHeir hs hN9
      go_wp2_with fail
      have bq := alloc_below0 w9 (.cells #[.int .i64 n, .int .i64 l, .slice a9 N9 c9] 29)
      have kq := blk_new w9 (.cells #[.int .i64 n, .int .i64 l, .slice a9 N9 c9] 29)
      obtain ⟨w10, hw10⟩ : ∃ W, W = w9.alloc (.cells #[.int .i64 n, .int .i64 l, .slice a9 N9 c9] 29) := ⟨_, rfl⟩
      rw [← hw10] at bq kq ⊢
      have F10 := Lib.hid (F9.out.step bq)
      have Z9 := Lib.hid F9.out.size
      obtain ⟨q, hq⟩ : ∃ q, w9.heap.size = q := ⟨_, rfl⟩
      rw [hq] at kq Z9 ⊢
      have g0 := blk_cell kq 0
      have g1 := blk_cell kq 1
      have g2 := blk_cell kq 2
      simp only [List.getElem?_toArray, List.getElem?_cons_zero, List.getElem?_cons_succ] at g0 g1 g2
      have nz0 : ¬ q = m + 1 + 1 := by have := Z9.out; omega
      have nz1 : ¬ m + 1 + 1 = q := by have := Z9.out; omega
      have nz2 : ¬ q = m + 1 + 1 + 1 := by have := Z9.out; omega
      have nz3 : ¬ m + 1 + 1 + 1 = q := by have := Z9.out; omega
      have q2 : (c == c) = true := by simp
      have fcode := fun w h => code_of c w h
      rw [EE.out] at fcode
      clear bq kq hw10 hq
      have SD := Lib.hid (show (fun w' : World => w'.cell? ⟨q, 0, none⟩ = some (.int .i64 n) ∧ w'.cell? ⟨q, 1, none⟩ = some (.int .i64 l) ∧ w'.cell? ⟨q, 2, none⟩ = some (.slice a9 N9 c9)) w10.drew from ⟨g0, g1, g2⟩)
      have fd := fcode w10.drew (Ea.Glob.below F10.out.du.low.drew G.out)
      refine AnyBut.region (fun w' => w'.cell? ⟨q, 0, none⟩ = some (.int .i64 n) ∧ w'.cell? ⟨q, 1, none⟩ = some (.int .i64 l) ∧ w'.cell? ⟨q, 2, none⟩ = some (.slice a9 N9 c9)) 8 (by kernel_rfl) ?_
      refine AnyBut.take (i := 0) (oi := ⟨some 158, _, _, _, _, _⟩) (v := ?va0) rfl (by kernel_rfl) (by kernel_rfl) (by kernel_rfl) (by kernel_rfl) (fun _ _ _ h => h) (Or.inl ⟨by rfl, ?hya0⟩) SD.out ?resta0
      case hya0 => (intro w hSw; go_simp; try (with_reducible rfl))
      simp only [Act.put, List.setIfInBounds_toArray, List.set_cons_zero, List.set_cons_succ]
      refine AnyBut.take (i := 1) (oi := ⟨some 159, _, _, _, _, _⟩) (v := ?va1) rfl (by kernel_rfl) (by kernel_rfl) (by kernel_rfl) (by kernel_rfl) (fun _ _ _ h => h) (Or.inl ⟨by rfl, ?hya1⟩) SD.out ?resta1
      case hya1 => (intro w hSw; go_simp; try (with_reducible rfl))
      simp only [Act.put, List.setIfInBounds_toArray, List.set_cons_zero, List.set_cons_succ]
      refine AnyBut.take (i := 2) (oi := ⟨some 160, _, _, _, _, _⟩) (v := ?va2) rfl (by kernel_rfl) (by kernel_rfl) (by kernel_rfl) (by kernel_rfl) (fun _ _ _ h => h) (Or.inl ⟨by rfl, ?hya2⟩) SD.out ?resta2
      case hya2 => (intro w hSw; go_simp; try (with_reducible rfl))
      simp only [Act.put, List.setIfInBounds_toArray, List.set_cons_zero, List.set_cons_succ]
      refine AnyBut.take (i := 4) (oi := ⟨some 162, _, _, _, _, _⟩) (v := ?va4) rfl (by kernel_rfl) (by kernel_rfl) (by kernel_rfl) (by kernel_rfl) (fun _ _ _ h => h) (Or.inl ⟨by rfl, ?hya4⟩) SD.out ?resta4
      case hya4 => (intro w hSw; go_simp; try (with_reducible rfl))
      simp only [Act.put, List.setIfInBounds_toArray, List.set_cons_zero, List.set_cons_succ]
      refine AnyBut.one (i := 3) (o := ⟨some 161, _, _, _, _, _⟩) (by kernel_rfl) rfl (fun K hK => ?_)
      go_simp
      refine fd.mono ?_
      rintro e6 wx ⟨rfl, hs⟩
      have BD := Lib.hid ((Below.refl _ w10).drew.trans hs)
      have FX := Lib.hid (F10.out.step BD.out)
      have u0 := cell_step g0 BD.out
      have u1 := cell_step g1 BD.out
      have u2 := cell_step g2 BD.out
      have SX := Lib.hid (show (fun w' : World => w'.cell? ⟨q, 0, none⟩ = some (.int .i64 n) ∧ w'.cell? ⟨q, 1, none⟩ = some (.int .i64 l) ∧ w'.cell? ⟨q, 2, none⟩ = some (.slice a9 N9 c9)) wx from ⟨u0, u1, u2⟩)
      simp only
      refine hK.out _ _ (fun _ => SX.out) ?_
      clear hs hK K fd u0 u1 u2
      try simp only [Act.put, List.setIfInBounds_toArray, List.set_cons_zero, List.set_cons_succ]
      refine AnyBut.take (i := 5) (oi := ⟨some 163, _, _, _, _, _⟩) (v := ?va5) rfl (by kernel_rfl) (by kernel_rfl) (by kernel_rfl) (by kernel_rfl) (fun _ _ _ h => h) (Or.inl ⟨by rfl, ?hya5⟩) SX.out ?resta5
      case hya5 => (intro w hSw; go_simp; try (with_reducible rfl))
      simp only [Act.put, List.setIfInBounds_toArray, List.set_cons_zero, List.set_cons_succ]
      obtain ⟨s0, s1, s2, s3, s4, s5, -⟩ := three_facts FX.out.kZ (.int .i64 n) (.int .i64 l) (.slice a9 N9 c9)
      obtain ⟨t0, t1, t2, t3, -⟩ := two_facts (blk_off (blk_off (blk_off FX.out.kO (b := m + 1 + 1) (by omega) 0 (.int .i64 n)) (b := m + 1 + 1) (by omega) 1 (.int .i64 l)) (b := m + 1 + 1) (by omega) 2 (.slice a9 N9 c9)) (.int .i64 0) (.int .i64 0)
      have k1 := (((Kept.refl (fun k => k = m + 1 + 1) wx).setCell 0 (.int .i64 n)).setCell 1 (.int .i64 l)).setCell 2 (.slice a9 N9 c9)
      have SY := Lib.hid (show (fun w' : World => w'.cell? ⟨q, 0, none⟩ = some (.int .i64 n) ∧ w'.cell? ⟨q, 1, none⟩ = some (.int .i64 l) ∧ w'.cell? ⟨q, 2, none⟩ = some (.slice a9 N9 c9)) (((wx.setCell ⟨m + 1 + 1, 0, none⟩ (.int .i64 n)).setCell ⟨m + 1 + 1, 1, none⟩ (.int .i64 l)).setCell ⟨m + 1 + 1, 2, none⟩ (.slice a9 N9 c9)) from ⟨k1.cell nz0 SX.out.1, k1.cell nz0 SX.out.2.1, k1.cell nz0 SX.out.2.2⟩)
      have k2 := ((Kept.refl (fun k => k = m + 1 + 1 + 1) (((wx.setCell ⟨m + 1 + 1, 0, none⟩ (.int .i64 n)).setCell ⟨m + 1 + 1, 1, none⟩ (.int .i64 l)).setCell ⟨m + 1 + 1, 2, none⟩ (.slice a9 N9 c9))).setCell 0 (.int .i64 0)).setCell 1 (.int .i64 0)
      have SZ := Lib.hid (show (fun w' : World => w'.cell? ⟨q, 0, none⟩ = some (.int .i64 n) ∧ w'.cell? ⟨q, 1, none⟩ = some (.int .i64 l) ∧ w'.cell? ⟨q, 2, none⟩ = some (.slice a9 N9 c9)) (endW wx m n l (.slice a9 N9 c9) 0 0) from ⟨k2.cell nz2 SY.out.1, k2.cell nz2 SY.out.2.1, k2.cell nz2 SY.out.2.2⟩)
      clear k1 k2
      refine AnyBut.one (i := 6) (o := ⟨none, _, _, _, _, _⟩) (by kernel_rfl) rfl (fun K hK => ?_)
      go_simp
      refine hK.out _ _ (fun _ => SY.out) ?_
      clear hK K
      try simp only [Act.put, List.setIfInBounds_toArray, List.set_cons_zero, List.set_cons_succ]
      refine AnyBut.one (i := 7) (o := ⟨none, _, _, _, _, _⟩) (by kernel_rfl) rfl (fun K hK => ?_)
      go_simp
      refine hK.out _ _ (fun _ => SZ.out) ?_
      clear hK K s0 s1 s2 s3 s4 s5 t0 t1 t2 t3
      try simp only [Act.put, List.setIfInBounds_toArray, List.set_cons_zero, List.set_cons_succ]
      refine AnyBut.one (i := 8) (o := ⟨some 10, _, _, _, _, _⟩) (by kernel_rfl) rfl (fun K hK => ?_)
      go_simp
      refine hK.out _ _ (fun h => absurd rfl h) ?_
      clear hK K
      try simp only [Act.put, List.setIfInBounds_toArray, List.set_cons_zero, List.set_cons_succ]
      refine AnyBut.done (by kernel_rfl) ?_ _
      go_wp2
      exact does_end FX.out P9.out.1 P9.out.2 NF.out rfl rfl rfl rfl
end Go.Proofs.YtndlpmdgegodpaaDoor
