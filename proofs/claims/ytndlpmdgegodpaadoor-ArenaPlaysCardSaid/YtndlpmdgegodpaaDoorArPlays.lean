/- The walk of the law ArenaPlays. -/
import Derived.Test.YtndlpmdgegodpaaDoorArPl
namespace Go.Proofs.YtndlpmdgegodpaaDoor
open Go.RowKit

set_option maxRecDepth 100000 in
set_option maxHeartbeats 4000000 in
theorem lawPlays (C : ArC) (sl la : Int) (v : Value) (ds : List DoD) (w : World) (hv : DosV w v ds) (hnn : ∀ d ∈ ds, 0 ≤ d.nn ∧ d.nn < 256) (hsm : ∀ d ∈ ds, SmallR d.rows) (hg : Ea.Glob w) :
    Calls Tryd.prog 3 #[.int .i64 sl, .int .i64 la, v] w fun ev w' => ev = .returned (.bool true) ∧ Below w.heap.size w w' := by
  have hnot : ∀ (x : Bool) (w : World), (Op.unary .not (.bool x)).run Tryd.prog w = .ok (.bool (!x)) w := fun _ _ => rfl
  have V := Lib.hid hv
  have G := Lib.hid hg
  obtain ⟨va, vc, rfl, hlc, hcm⟩ := hv.1.lenform
  obtain ⟨N, hN⟩ : ∃ n, ds.length = n := ⟨_, rfl⟩
  have LN := Lib.hid hN
  have UN := Lib.hid (show ∀ d ∈ ds, (0 ≤ d.nn ∧ d.nn < 256) ∧ SmallR d.rows from fun d h => ⟨hnn d h, hsm d h⟩)
  rw [hN] at V hlc ⊢
  unfold maxLen at hcm
  clear hv hN hnn hsm hg
  go_enter Tryd.func3, Tryd.ntmps3
  go_wp2_with fail
  refine (few_any sl _ ds _ V.out).mono ?_
  rintro ev w1 ⟨rfl, hs⟩
  have B1 := Lib.hid hs
  clear hs
  cases hf : fewD sl ds with
  | false =>
    go_wp2_with fail
    refine (awakeA C _).mono ?_
    rintro ev w2 ⟨rfl, hs⟩
    have B2 := Lib.hid (B1.out.trans (hs.mono B1.out.size))
    clear hs
    go_wp2
    go_ret
    exact ⟨rfl, B2.out⟩
  | true =>
    have F := Lib.hid hf
    clear hf
    cases hok : okN sl la with
    | false =>
      have NO := Lib.hid hok
      clear hok
      go_wp2_with fail
      refine (C.newNo sl la _ NO.out).mono ?_
      rintro ev w2 ⟨rfl, hs⟩
      have B2 := Lib.hid (B1.out.trans (hs.mono B1.out.size))
      clear hs
      go_wp2_with fail
      refine (rf_newNo sl la _ NO.out).mono ?_
      rintro ev w3 ⟨rfl, hs⟩
      unfold refA
      have b3 := alloc_below0 w3 (.cells #[.int .i64 0, .int .i64 0, .slice none 0 0] 29)
      have B3 := Lib.hid ((B2.out.trans (hs.mono B2.out.size)).trans (b3.mono (B2.out.trans (hs.mono B2.out.size)).size))
      clear hs b3
      go_wp2_with fail
      refine (awakeA C _).mono ?_
      rintro ev w4 ⟨rfl, hs⟩
      have B4 := Lib.hid (B3.out.trans (hs.mono B3.out.size))
      clear hs
      go_wp2
      go_ret
      exact ⟨rfl, B4.out⟩
    | true =>
      obtain ⟨n, rfl⟩ : ∃ n : Nat, sl = n := ⟨sl.toNat, by unfold okN at hok; simp at hok; omega⟩
      obtain ⟨l, rfl⟩ : ∃ l : Nat, la = l := ⟨la.toNat, by unfold okN at hok; simp at hok; omega⟩
      have ok := Lib.hid hok
      have HB := Lib.hid (show 1 ≤ n ∧ n ≤ 4096 ∧ 1 ≤ l ∧ l ≤ 1099511627776 by unfold okN at hok; simp at hok; omega)
      have N60 := Lib.hid (show N ≤ 60 from LN.out ▸ okD_len F.out)
      clear hok
      go_wp2_with fail
      refine (C.new n l _ ok.out).mono ?_
      rintro ev w2 ⟨a, S1, rfl, hI, hS, hs⟩
      have A1 := Lib.hid (show Du C w w2 a S1 n l [] [] (.slice none 0 0) from ⟨hI, fun k hk => Nat.le_trans B1.out.size (hS k hk), B1.out.trans (hs.mono B1.out.size), OwnS.nil _ _ _, fun k h => (by cases h), fun e he => (by cases he)⟩)
      clear hI hS hs
      go_wp2_with fail
      refine (rf_new n l _ ok.out).mono ?_
      rintro ev w3 ⟨rfl, hs⟩
      unfold refA
      have b3 := alloc_below0 w3 (.cells #[.int .i64 n, .int .i64 l, .slice none 0 0] 29)
      have k3 := blk_new w3 (.cells #[.int .i64 n, .int .i64 l, .slice none 0 0] 29)
      have A2 := A1.out.step hs
      have A3 := A2.step b3
      have P3 := Lib.hid (show Pl C w _ a S1 n l [] (.slice none 0 0) (.slice none 0 0) w3.heap.size (.slice none 0 0) [] from
        ⟨A3, k3, OwnS.nil _ _ _, fun q => Nat.lt_irrefl _ (C.foot A2.inv _ q), fun k h => (by cases h), A2.low.size⟩)
      obtain ⟨rb, hrb⟩ : ∃ r, w3.heap.size = r := ⟨_, rfl⟩
      obtain ⟨W3, hW3⟩ : ∃ W, W = w3.alloc (.cells #[.int .i64 n, .int .i64 l, .slice none 0 0] 29) := ⟨_, rfl⟩
      rw [← hW3, hrb] at P3
      clear hs b3 k3 A2 A3 A1 ok
      go_wp2_with fail
      rw [← hW3]
      clear hW3 hrb
      go_loopg [10, 47] N (fun r tv i wz => ∃ (k : Nat) (S : Nat → Prop) (us : List PuD) (v : Value) (told : List Rf), k + r = N ∧ i = .int .i64 k ∧ Pl C w wz a S n l us v v rb tv told ∧ us.length ≤ k ∧ told.length ≤ k)
      case atStart => exact ⟨0, S1, [], _, [], by omega, rfl, P3.out, Nat.le_refl _, Nat.le_refl _⟩
      case round =>
        obtain ⟨wo, hwo⟩ : ∃ x, x = wr := ⟨_, rfl⟩
        subst hwo
        obtain ⟨go, hgo⟩ : ∃ x, x = gk := ⟨_, rfl⟩
        subst hgo
        obtain ⟨k, S, us, vv, told, hk, rfl, hP, hu, ht⟩ := hrel
        have A := Lib.hid (show Pl C w wo a S n l us vv vv rb u10 told ∧ us.length ≤ k ∧ told.length ≤ k ∧ k + go = N from ⟨hP, hu, ht, hk⟩)
        obtain ⟨va1, vc1, rfl, -, -⟩ := hP.du.own.sv.lenform
        obtain ⟨M, hM⟩ : ∃ x, us.length = x := ⟨_, rfl⟩
        rw [hM] at A
        have UM := Lib.hid (show us.length = M ∧ M ≤ k from ⟨hM, A.out.2.1⟩)
        clear hP hu ht
        by_cases hlt : k < N
        · have KN := Lib.hid (show k < 60 by have := N60.out; omega)
          obtain ⟨b, off, ha⟩ := V.out.1.addr (by rw [LN.out]; omega)
          subst ha
          obtain ⟨d, hx⟩ : ∃ d, ds[k]? = some d := ⟨_, List.getElem?_eq_getElem (by rw [LN.out]; exact hlt)⟩
          have hrng : wo.rangeAt b (off + k * 20) d.cells := fun j v hj => cell_step (V.out.1.cellAt (j := j) hx hj) A.out.1.du.low
          have MD := Lib.hid (show d ∈ ds from List.mem_of_getElem? hx)
          have KD := Lib.hid (show Kin w d.rv d.en d.rows d.ents from ⟨(V.out.2 d MD.out).1, (V.out.2 d MD.out).2, (okD_in F.out MD.out).1, (okD_in F.out MD.out).2, (UN.out d MD.out).2⟩)
          clear hx hk hM
          go_upto_region 11 with (first
            | (refine wpList_load_mid rfl 42 (.tmp 49) rfl b (off + k * 20) rfl d.cells _ hrng Tryd.underlying42 rfl (by kernel_rfl) ?_)
            | (refine wpList_store_mid rfl 42 (.tmp 12) (.tmp 50) rfl wo.heap.size 0 d.cells.toArray rfl rfl (there_new wo _ _) (by kernel_rfl) (all_oneCell_toArray d.cells_one) ?_
               generalize hw2 : World.setCells _ _ _ _ = w3
               have hq := Lib.hid (show Below wo.heap.size wo w3 ∧ w3.rangeAt wo.heap.size 0 d.cells by rw [← hw2]; exact put_new wo _ _ d.cells rfl)
               clear hw2))
          have P4 := Lib.hid (A.out.1.step hq.out.1)
          have a0 := blk_cell P4.out.kA 0
          have a1 := blk_cell P4.out.kA 1
          have a2 := blk_cell P4.out.kA 2
          simp only [List.getElem?_toArray, List.getElem?_cons_zero, List.getElem?_cons_succ] at a0 a1 a2
          have hrng2 := hq.out.2
          obtain ⟨ta, tc, rfl, -, -⟩ := P4.out.own.sv.lenform
          obtain ⟨tl, htl⟩ : ∃ x, told.length = x := ⟨_, rfl⟩
          have TL := Lib.hid htl
          have fd := does_arena C w w3 a S n l us (.slice va1 M vc1) d (.slice ta told.length tc) told P4.out.du KD.out (UN.out d MD.out).1 P4.out.own.sv (by have := A.out.2.2.1; have := KN.out; omega) (by have := UM.out; have := KN.out; omega) HB.out.2.1 HB.out.2.2.2 G.out
          unfold refA doVal DoD.rv DoD.en at fd
          rw [htl] at P4 fd ⊢
          clear hrng hq htl
          go_wp2_with (refine wpList_load_mid rfl 42 (.tmp 12) rfl wo.heap.size 0 rfl d.cells _ hrng2 Tryd.underlying42 rfl (by kernel_rfl) ?_)
          refine fd.mono ?_
          rintro ev w4 ⟨v4, us4, S4, t1, t2, rfl, hD, hl4, hk4, hn4, -⟩
          unfold refA refV
          have P5 := Lib.hid (P4.out.turn hD hk4 hn4)
          have L4 := Lib.hid (show us4.length ≤ k + 1 by have := UM.out; omega)
          have L5 := Lib.hid (show us4.length ≤ k + 1 by have := UM.out; omega)
          obtain ⟨va4, vc4, rfl, -, -⟩ := hD.own.sv.lenform
          obtain ⟨M4, hM4⟩ : ∃ x, us4.length = x := ⟨_, rfl⟩
          rw [hM4] at P5 L5 ⊢
          have b5 := alloc_below0 w4 (.cells #[.int .i64 n, .int .i64 l, .slice va4 M4 vc4] 29)
          have k5 := blk_new w4 (.cells #[.int .i64 n, .int .i64 l, .slice va4 M4 vc4] 29)
          obtain ⟨w5, hw5⟩ : ∃ W, W = w4.alloc (.cells #[.int .i64 n, .int .i64 l, .slice va4 M4 vc4] 29) := ⟨_, rfl⟩
          rw [← hw5] at b5 k5
          have b6 := alloc_below0 w5 (.cells #[.int .i64 t1, .int .i64 t2] 38)
          have k6 := blk_new w5 (.cells #[.int .i64 t1, .int .i64 t2] 38)
          obtain ⟨w6, hw6⟩ : ∃ W, W = w5.alloc (.cells #[.int .i64 t1, .int .i64 t2] 38) := ⟨_, rfl⟩
          rw [← hw6] at b6 k6
          have z5 : w5.heap.size = w4.heap.size + 1 := by rw [hw5]; simp
          rw [z5] at k6
          have P6 := Lib.hid ((P5.out.step b5).step b6)
          have K5 := Lib.hid (blk_step k5 b6)
          have ZR := Lib.hid (show rb < w4.heap.size from P5.out.lt)
          obtain ⟨qa, hqa⟩ : ∃ q, w4.heap.size = q := ⟨_, rfl⟩
          rw [hqa] at K5 k6 ZR
          have P7 := Lib.hid P6.out.setR
          have X7 := Lib.hid (show XK (qa + 1) t1 t2 (setR w6 rb n l (.slice va4 M4 vc4)) from blk_keep k6 (setR_kept _ _ _ _ _) (by have := ZR.out; omega))
          rw [hw5] at hw6
          clear hD hl4 hk4 hn4 hM4 b5 k5 b6 k6 z5 fd a0 a1 a2 hrng2 hw5
          go_upto_region 12 with fail
          rw [← hw6]
          clear hw6 hqa
          have a0 := blk_cell K5.out 0
          have a1 := blk_cell K5.out 1
          have a2 := blk_cell K5.out 2
          simp only [List.getElem?_toArray, List.getElem?_cons_zero, List.getElem?_cons_succ] at a0 a1 a2
          obtain ⟨s0, s1, s2, s3, s4, s5, -⟩ := three_facts P6.out.kA (.int .i64 n) (.int .i64 l) (.slice va4 M4 vc4)
          go_upto_region 13 with fail
          clear a0 a1 a2 s0 s1 s2 s3 s4 s5
          obtain ⟨w7, hw7⟩ : ∃ W, W = setR w6 rb n l (.slice va4 M4 vc4) := ⟨_, rfl⟩
          rw [← hw7] at P7 X7
          unfold setR at hw7
          rw [← hw7]
          clear hw7 P6 K5
          have x0 := blk_cell X7.out 0
          have x1 := blk_cell X7.out 1
          simp only [List.getElem?_toArray, List.getElem?_cons_zero, List.getElem?_cons_succ] at x0 x1
          go_upto_if 63 with fail
          go_cut [10] from 61 to 67 (fun tv wc => ∃ told2, Pl C w wc a S4 n l us4 (.slice va4 M4 vc4) (.slice va4 M4 vc4) rb tv told2 ∧ told2.length ≤ k + 1)
          case first =>
            by_cases ht1 : 0 < t1
            · have b8 := alloc_below0 w7 (.cells #[.int .i64 t1, .int .i64 t2] 38)
              have P8 := Lib.hid (P7.out.step b8)
              have SR := (OwnS.lit lRef (rb + 1) w7 w7.heap.size rfl [(t1, t2)] (by have := P7.out.lt; omega) (by simp [maxLen])).sv
              have Z8 := Lib.hid (show rb + 1 ≤ (w7.alloc (.cells #[.int .i64 t1, .int .i64 t2] 38)).heap.size by have := P8.out.lt; omega)
              clear b8
              go_wp2_with (refine wpList_appAt lRef 32 Tryd.underlying32 lRef_known (by decide) (by decide) rfl (.tmp 64) (.tmp 66) rfl (rb + 1) (t1, t2) w7.heap.size rfl rfl P8.out.own SR (by have := A.out.2.2.1; have := KN.out; omega) Z8.out ?_; intro tv2 w10 ho10 hg10 hn10; have P10 := Lib.hid (P8.out.app ho10 hg10 hn10); clear ho10 hg10 hn10)
              go_meet
              case rel => exact ⟨_, P10.out, by rw [List.length_append]; have := A.out.2.2.1; show told.length + 1 ≤ k + 1; omega⟩
            · go_wp2
              go_meet
              case rel => exact ⟨_, P7.out, by have := A.out.2.2.1; omega⟩
          case rest =>
            obtain ⟨told2, hP, htl2⟩ := hcut
            obtain ⟨w8, hw8⟩ : ∃ x, x = wc := ⟨_, rfl⟩
            subst hw8
            have P8 := Lib.hid hP
            have T8 := Lib.hid htl2
            have t0 := blk_cell P8.out.kA 0
            have t1' := blk_cell P8.out.kA 1
            have t2' := blk_cell P8.out.kA 2
            simp only [List.getElem?_toArray, List.getElem?_cons_zero, List.getElem?_cons_succ] at t0 t1' t2'
            clear hP htl2 x0 x1 P7 X7
            obtain ⟨lf, hlf⟩ : ∃ x, leftM n l (us4.map PuD.pt) = x := ⟨_, rfl⟩
            have fl1 := fun w h => C.live a S4 n l (us4.map PuD.pt) w h
            have fl2 := fun w h => rf_live n l (.slice va4 M4 vc4) us4 w h HB.out.2.1
            have fl3 := fun v u w h1 h2 => rf_same v u (liveM n (us4.map PuD.pt)) w h1 h2
            have fl4 := fun w h => C.left a S4 n l (us4.map PuD.pt) w h
            have fl5 := fun w h => rf_left n l (.slice va4 M4 vc4) us4 w h HB.out.2.1
            unfold refA at fl2 fl5
            rw [hlf] at fl4 fl5
            have q1 : ((lf : Int) != (lf : Int)) = false := by simp
            clear hlf
            go_wp2_with fail
            go_region_held3 (fun w' => w'.cell? ⟨rb, 0, none⟩ = some (.int .i64 n) ∧ w'.cell? ⟨rb, 1, none⟩ = some (.int .i64 l) ∧ w'.cell? ⟨rb, 2, none⟩ = some (.slice va4 M4 vc4)) (first | exact ⟨by assumption, by assumption, by assumption⟩ | go_keep)
              (first
                | (go_at_call 11; (with_reducible refine (fl1 _ ?_).mono ?_); exact (P8.out.step (Below.refl _ _).drew).du.inv; rintro e9 w9 ⟨v9, rfl, ho9, hs⟩; have BA := Lib.hid ((Below.refl _ w8).drew.trans hs); have a0 := cell_step t0 BA.out; have a1 := cell_step t1' BA.out; have a2 := cell_step t2' BA.out; have SV9 := Lib.hid ho9.sv; clear hs ho9)
                | (go_at_call 12; (with_reducible refine (fl2 _ ?_).mono ?_); exact (P8.out.step BA.out).du.own.sv; rintro e10 w10 ⟨v10, rfl, ho10, hs⟩; have BB := Lib.hid (BA.out.trans (hs.mono BA.out.size)); have b0 := cell_step a0 hs; have b1 := cell_step a1 hs; have b2 := cell_step a2 hs; have SV10 := Lib.hid ho10.sv; have SV11 := Lib.hid (SV9.out.below hs); clear hs ho10)
                | (go_at_call 10; (with_reducible refine (fl3 _ _ _ ?_ ?_).mono ?_); exact SV11.out; exact SV10.out; rintro e11 w11 ⟨rfl, hs⟩; have BC := Lib.hid (BB.out.trans (hs.mono BB.out.size)); have c0 := cell_step b0 hs; have c1 := cell_step b1 hs; have c2 := cell_step b2 hs; clear hs)
                | (go_at_call 13; (with_reducible refine (fl4 _ ?_).mono ?_); exact (P8.out.step BC.out).du.inv; rintro e12 w12 ⟨rfl, hs⟩; have BD := Lib.hid (BC.out.trans (hs.mono BC.out.size)); have d0 := cell_step c0 hs; have d1 := cell_step c1 hs; have d2 := cell_step c2 hs; clear hs)
                | (go_at_call 14; (with_reducible refine (fl5 _ ?_).mono ?_); exact (P8.out.step BD.out).du.own.sv; rintro e13 w13 ⟨rfl, hs⟩; have BE := Lib.hid (BD.out.trans (hs.mono BD.out.size)); have e0 := cell_step d0 hs; have e1 := cell_step d1 hs; have e2 := cell_step d2 hs; clear hs))
            have i3 : IntKind.i64.wrap ((k : Int) + 1) = (k : Int) + 1 := Go.IntWalk.i64_in _ (by have := KN.out; omega)
            go_wp2
            go_roundg (N - (k + 1))
            case measure => have := A.out.2.2.2; omega
            case rel => exact ⟨k + 1, S4, us4, _, told2, by omega, by go_num, P8.out.step BE.out, L4.out, T8.out⟩
        · obtain rfl : k = N := by have := A.out.2.2.2; omega
          have B9 := Lib.hid A.out.1.du.low
          clear hk hM
          go_wp2_with fail
          refine (awakeA C _).mono ?_
          rintro ev w8 ⟨rfl, hs⟩
          have B8 := Lib.hid (B9.out.trans (hs.mono B9.out.size))
          clear hs
          go_wp2
          go_ret
          exact ⟨rfl, B8.out⟩
end Go.Proofs.YtndlpmdgegodpaaDoor
