/- A step done in both arenas (verb 3): does, by a contract. -/
import Derived.Test.YtndlpmdgegodpaaDoorArDu
namespace Go.Proofs.YtndlpmdgegodpaaDoor
open Go.RowKit

set_option maxRecDepth 100000 in
set_option maxHeartbeats 4000000 in
theorem does3 (C : ArC) (W w : World) (a : Addr) (S : Nat → Prop) (n l : Nat) (us : List PuD) (v : Value) (d : DoD) (tv : Value) (told : List Rf) (hD : Du C W w a S n l (us.map PuD.pt) us v) (hK : Kin W d.rv d.en d.rows d.ents) (hnn : 0 ≤ d.nn ∧ d.nn < 256) (ht : SV lRef w tv told) (htl : told.length ≤ 60) (hul : us.length ≤ 900) (hn4 : n ≤ 4096) (hl4 : l ≤ 1099511627776) (hg : Ea.Glob W) (hvb : ¬ d.verb = 0 ∧ ¬ d.verb = 1 ∧ ¬ d.verb = 2) :
    Calls Tryd.prog 9 #[.pointer (some a), refA n l v, doVal d.verb d.sc d.rv d.en d.x d.y d.last d.nn, tv] w (DoesP C W w a S n l us v) := by
  have HV := Lib.hid hvb
  clear hvb
  have hnot : ∀ (x : Bool) (w : World), (Op.unary .not (.bool x)).run Tryd.prog w = .ok (.bool (!x)) w := fun _ _ => rfl
  obtain ⟨va, vc, rfl, hlc, hcm⟩ := hD.own.sv.lenform
  obtain ⟨N, hN⟩ : ∃ N, us.length = N := ⟨_, rfl⟩
  obtain ⟨ta, tc, rfl, htc, -⟩ := ht.lenform
  obtain ⟨tl, htl2⟩ : ∃ x, told.length = x := ⟨_, rfl⟩
  have LN := Lib.hid (show us.length = N ∧ N ≤ 900 ∧ n ≤ 4096 ∧ l ≤ 1099511627776 from ⟨hN, hN ▸ hul, hn4, hl4⟩)
  have TL := Lib.hid (show told.length = tl ∧ tl ≤ 60 from ⟨htl2, htl2 ▸ htl⟩)
  have HK := Lib.hid hK
  have G := Lib.hid hg
  have U := Lib.hid hnn
  rw [hN] at hD hlc ⊢
  rw [htl2] at ht htc ⊢
  have DD := Lib.hid hD
  have TT := Lib.hid (ht.below (startW_below w n l (.slice va N vc) d (.cells #[.int .i64 d.x, .int .i64 d.y] 38)))
  have F0 := Lib.hid (Fd.start hD d)
  have DB0 := Lib.hid (startW_db w n l (.slice va N vc) d)
  have EW := Lib.hid (show startW w n l (.slice va N vc) d = _ from rfl)
  have v16 := DB0.out.c16
  have v17 := DB0.out.c17
  unfold startW doObj at v16 v17
  clear hD hK hnn ht htl hul hn4 hl4 hg hN htl2 hlc hcm htc
  unfold refA doVal DoD.rv DoD.en
  go_enter Tryd.func9, Tryd.ntmps9
  go_upto_region 2 with fail
  generalize hdv : Value.agg #[.int .i64 d.verb, .int .i64 d.sc.kind, .string d.sc.low, .string d.sc.high, .bool d.sc.unb, .int .i64 d.sc.right, .slice d.ra d.rows.length d.rc, .slice d.ea d.ents.length d.ec, .string d.sc.key, .string d.sc.value, .int .i64 d.sc.page, .int .i64 d.sc.hp, .int .i64 d.sc.hl, .string d.sc.hk, .int .i64 d.sc.ns, .int .i64 d.sc.ng, .int .i64 d.x, .int .i64 d.y, .bool d.last, .int .u8 d.nn] = dv
  clear hdv
  clear v16 v17
  obtain ⟨w5, hw5⟩ : ∃ x, x = (startW w n l (.slice va N vc) d).alloc (.cells #[.int .i64 d.x, .int .i64 d.y] 38) := ⟨_, rfl⟩
  have F5 := F0
  rw [← hw5] at F5 TT
  unfold startW doObj at hw5
  rw [← hw5]
  clear hw5 F0 DB0 EW
  generalize hmm : w.heap.size = m at *
  have v18 := F5.out.kD.c18
  go_cut [36] from 30 to 36 (fun s36 wc => s36 = .bool (d.last && decide (0 < tl)) ∧ wc = w5)
  case first =>
    obtain ⟨dl, hl⟩ : ∃ x, d.last = x := ⟨_, rfl⟩
    rw [hl] at v18
    cases dl with
    | false =>
      go_wp2
      go_meet
      case rel => exact ⟨by simp [hl], rfl⟩
    | true =>
      by_cases ht : 0 < tl
      · have ht2 : (0 : Int) < (tl : Int) := by omega
        go_wp2
        go_meet
        case rel => exact ⟨by simp [hl, ht], rfl⟩
      · have ht2 : ¬ (0 : Int) < (tl : Int) := by omega
        go_wp2
        go_meet
        case rel => exact ⟨by simp [hl, ht], rfl⟩
  case rest =>
    obtain ⟨rfl, rfl⟩ := hcut
    obtain ⟨w6, hw6⟩ : ∃ x, x = wc := ⟨_, rfl⟩
    subst hw6
    clear v18
    go_upto_if 36 with fail
    go_cut [] from 36 to 49 (fun wc => ∃ px py : Int, Fd C W w wc a S S n l (us.map PuD.pt) us (.slice va N vc) (.slice va N vc) d px py m)
    case first =>
      cases hB : (d.last && decide (0 < tl)) with
      | false =>
        go_wp2
        go_meet
        case rel => exact ⟨d.x, d.y, F5.out⟩
      | true =>
        have ht : 0 < tl := by
          simp only [Bool.and_eq_true, decide_eq_true_eq] at hB
          exact hB.2
        obtain ⟨q, hq⟩ : ∃ q : Nat, d.nn = q := ⟨d.nn.toNat, by have := U.out; omega⟩
        have v19 := F5.out.kD.c19
        rw [hq] at v19
        have mb : q < 256 := by have := U.out.2; omega
        have tb : tl ≤ 60 := TL.out.2
        have hml : q % tl < tl := Nat.mod_lt _ ht
        have TV := TT
        obtain ⟨gt, go, hgt⟩ := TV.out.addr (by rw [TL.out.1]; omega)
        subst hgt
        have f0 := blk_free F5.out.kX 0
        have f1 := blk_free F5.out.kX 1
        obtain ⟨⟨p, r⟩, hpq⟩ : ∃ x, told[tl - 1 - q % tl]? = some x := ⟨_, List.getElem?_eq_getElem (by rw [TL.out.1]; omega)⟩
        have x0 := TV.out.cellAt (j := 0) hpq rfl
        have x1 := TV.out.cellAt (j := 1) hpq rfl
        simp only [lRef, Nat.add_zero] at x0 x1
        have q0 := blk_cell F5.out.kX 0
        have q1 := blk_cell F5.out.kX 1
        clear hq hpq
        go_wp2
        go_meet
        case rel => exact ⟨p, r, F5.out.setX (fun k hk => by have := (DD.out.own.bounds k hk).2; omega) p r⟩
    case rest =>
      obtain ⟨px, py, hF⟩ := hcut
      obtain ⟨w7, hw7⟩ : ∃ x, x = wc := ⟨_, rfl⟩
      subst hw7
      have F7 := Lib.hid hF
      clear hF F5 TT
      have v0 := F7.out.kD.c0
      obtain ⟨h0, h1, h2⟩ := HV.out
      have a0 := blk_cell F7.out.kA 0
      have a1 := blk_cell F7.out.kA 1
      have a2 := blk_cell F7.out.kA 2
      obtain ⟨s0, s1, s2, s3, s4, s5, s6⟩ := three_facts F7.out.kZ (.int .i64 n) (.int .i64 l) (.slice va N vc)
      have o3 := blk_off (blk_off (blk_off F7.out.kO (b := m + 1 + 1) (by omega) 0 (.int .i64 n)) (b := m + 1 + 1) (by omega) 1 (.int .i64 l)) (b := m + 1 + 1) (by omega) 2 (.slice va N vc)
      obtain ⟨t0, t1, t2, t3, -⟩ := two_facts o3 (.int .i64 0) (.int .i64 0)
      clear s6 o3
      go_wp2
      exact does_end F7.out rfl (Nat.le_succ _) (.inl rfl) rfl rfl rfl rfl
end Go.Proofs.YtndlpmdgegodpaaDoor
