/- The walk of the law ArenaCopies. -/
import Derived.Test.YtndlpmdgegodpaaDoorArCp
namespace Go.Proofs.YtndlpmdgegodpaaDoor
open Go.RowKit

set_option maxRecDepth 100000 in
set_option maxHeartbeats 4000000 in
theorem lawCopies (C : ArC) (sl la : Int) (v : Value) (ds : List DoD) (at_ : Int) (hat : 0 ≤ at_ ∧ at_ ≤ 255) (w : World) (hv : DosV w v ds) (hnn : ∀ d ∈ ds, 0 ≤ d.nn ∧ d.nn < 256) (hsm : ∀ d ∈ ds, SmallR d.rows) (hg : Ea.Glob w) :
    Calls Tryd.prog 4 #[.int .i64 sl, .int .i64 la, v, .int .u8 at_] w fun ev w' => ev = .returned (.bool true) ∧ Below w.heap.size w w' := by
  have hnot : ∀ (x : Bool) (w : World), (Op.unary .not (.bool x)).run Tryd.prog w = .ok (.bool (!x)) w := fun _ _ => rfl
  have V := Lib.hid hv
  have G := Lib.hid hg
  obtain ⟨va, vc, rfl, hlc, hcm⟩ := hv.1.lenform
  obtain ⟨N, hN⟩ : ∃ n, ds.length = n := ⟨_, rfl⟩
  have LN := Lib.hid hN
  have UN := Lib.hid (show ∀ d ∈ ds, (0 ≤ d.nn ∧ d.nn < 256) ∧ SmallR d.rows from fun d h => ⟨hnn d h, hsm d h⟩)
  rw [hN] at V hlc ⊢
  unfold maxLen at hcm
  clear hv hN hnn hsm hg
  go_enter Tryd.func4, Tryd.ntmps4
  go_wp2_with fail
  refine (few_any sl _ ds _ V.out).mono ?_
  rintro ev w1 ⟨rfl, hs⟩
  have B1 := Lib.hid hs
  clear hs
  cases hf : fewD sl ds with
  | false =>
    go_wp2_with fail
    refine (awakeA C _).mono ?_
    rintro ev w2 ⟨rfl, hs⟩
    have B2 := Lib.hid (B1.out.trans (hs.mono B1.out.size))
    clear hs
    go_wp2
    go_ret
    exact ⟨rfl, B2.out⟩
  | true =>
    have F := Lib.hid hf
    clear hf
    cases hok : okN sl la with
    | false =>
      have NO := Lib.hid hok
      clear hok
      go_wp2_with fail
      refine (C.newNo sl la _ NO.out).mono ?_
      rintro ev w2 ⟨rfl, hs⟩
      have B2 := Lib.hid (B1.out.trans (hs.mono B1.out.size))
      clear hs
      go_wp2_with fail
      refine (rf_newNo sl la _ NO.out).mono ?_
      rintro ev w3 ⟨rfl, hs⟩
      unfold refA
      have b3 := alloc_below0 w3 (.cells #[.int .i64 0, .int .i64 0, .slice none 0 0] 29)
      have B3 := Lib.hid ((B2.out.trans (hs.mono B2.out.size)).trans (b3.mono (B2.out.trans (hs.mono B2.out.size)).size))
      clear hs b3
      go_wp2_with fail
      refine (C.copyNil _).mono ?_
      rintro ev w9 ⟨rfl, hs⟩
      have B9 := Lib.hid (B3.out.trans (hs.mono B3.out.size))
      clear hs
      go_wp2_with fail
      refine (awakeA C _).mono ?_
      rintro ev w4 ⟨rfl, hs⟩
      have B4 := Lib.hid (B9.out.trans (hs.mono B9.out.size))
      clear hs
      go_wp2
      go_ret
      exact ⟨rfl, B4.out⟩
    | true =>
      obtain ⟨n, rfl⟩ : ∃ n : Nat, sl = n := ⟨sl.toNat, by unfold okN at hok; simp at hok; omega⟩
      obtain ⟨l, rfl⟩ : ∃ l : Nat, la = l := ⟨la.toNat, by unfold okN at hok; simp at hok; omega⟩
      have ok := Lib.hid hok
      have HB := Lib.hid (show 1 ≤ n ∧ n ≤ 4096 ∧ 1 ≤ l ∧ l ≤ 1099511627776 by unfold okN at hok; simp at hok; omega)
      have N60 := Lib.hid (show N ≤ 60 from LN.out ▸ okD_len F.out)
      clear hok
      go_wp2_with fail
      refine (C.new n l _ ok.out).mono ?_
      rintro ev w2 ⟨a, S1, rfl, hI, hS, hs⟩
      have A1 := Lib.hid (show Du C w w2 a S1 n l [] [] (.slice none 0 0) from ⟨hI, fun k hk => Nat.le_trans B1.out.size (hS k hk), B1.out.trans (hs.mono B1.out.size), OwnS.nil _ _ _, fun k h => (by cases h), fun e he => (by cases he)⟩)
      clear hI hS hs
      go_wp2_with fail
      refine (rf_new n l _ ok.out).mono ?_
      rintro ev w3 ⟨rfl, hs⟩
      unfold refA
      have b3 := alloc_below0 w3 (.cells #[.int .i64 n, .int .i64 l, .slice none 0 0] 29)
      have k3 := blk_new w3 (.cells #[.int .i64 n, .int .i64 l, .slice none 0 0] 29)
      have A2 := A1.out.step hs
      have A3 := A2.step b3
      have P3 := Lib.hid (show Pl C w _ a S1 n l [] (.slice none 0 0) (.slice none 0 0) w3.heap.size (.slice none 0 0) [] from
        ⟨A3, k3, OwnS.nil _ _ _, fun q => Nat.lt_irrefl _ (C.foot A2.inv _ q), fun k h => (by cases h), A2.low.size⟩)
      obtain ⟨rb, hrb⟩ : ∃ r, w3.heap.size = r := ⟨_, rfl⟩
      obtain ⟨W3, hW3⟩ : ∃ W, W = w3.alloc (.cells #[.int .i64 n, .int .i64 l, .slice none 0 0] 29) := ⟨_, rfl⟩
      rw [← hW3, hrb] at P3
      clear hs b3 k3 A2 A3 A1 ok
      obtain ⟨K, hK, hKm⟩ : ∃ K : Nat, at_ % ((N : Int) + 1) = (K : Int) ∧ K ≤ N := ⟨(at_ % ((N : Int) + 1)).toNat, by
        have := Int.emod_nonneg at_ (b := (N : Int) + 1) (by omega); omega, by
        have := Int.emod_lt_of_pos at_ (b := (N : Int) + 1) (by omega)
        have := Int.emod_nonneg at_ (b := (N : Int) + 1) (by omega); omega⟩
      have kc : K ≤ vc := by omega
      have n60' : ¬ 60 < (N : Int) := by have := N60.out; omega
      have HM := Lib.hid (show K ≤ N ∧ N ≤ 60 from ⟨hKm, N60.out⟩)
      go_wp2_with fail
      rw [← hW3]
      clear hW3 hrb
      rw [hK]
      clear hK
      go_loopg [65] K (fun r i wz => ∃ (k : Nat) (S : Nat → Prop) (us : List PuD) (v : Value), k + r = K ∧ i = .int .i64 k ∧ Pl C w wz a S n l us v v rb (.slice none 0 0) [] ∧ us.length ≤ k)
      case atStart => exact ⟨0, S1, [], _, by omega, rfl, P3.out, Nat.le_refl _⟩
      case round =>
        obtain ⟨wo, hwo⟩ : ∃ x, x = wr := ⟨_, rfl⟩
        subst hwo
        obtain ⟨go, hgo⟩ : ∃ x, x = gk := ⟨_, rfl⟩
        subst hgo
        obtain ⟨k, S, us, vv, hk, rfl, hP, hu⟩ := hrel
        have A := Lib.hid (show Pl C w wo a S n l us vv vv rb (.slice none 0 0) [] ∧ us.length ≤ k ∧ k + go = K from ⟨hP, hu, hk⟩)
        obtain ⟨va1, vc1, rfl, -, -⟩ := hP.du.own.sv.lenform
        obtain ⟨M, hM⟩ : ∃ x, us.length = x := ⟨_, rfl⟩
        rw [hM] at A
        have UM := Lib.hid (show us.length = M ∧ M ≤ k from ⟨hM, A.out.2.1⟩)
        clear hP hu
        by_cases hlt : k < K
        · have KN := Lib.hid (show k < 60 by have := HM.out; omega)
          obtain ⟨b, off, ha⟩ := V.out.1.addr (by rw [LN.out]; have := HM.out; omega)
          subst ha
          obtain ⟨d, hx⟩ : ∃ d, ds[k]? = some d := ⟨_, List.getElem?_eq_getElem (by rw [LN.out]; have := HM.out; omega)⟩
          have hrng : wo.rangeAt b (off + k * 20) d.cells := fun j v hj => cell_step (V.out.1.cellAt (j := j) hx hj) A.out.1.du.low
          have MD := Lib.hid (show d ∈ ds from List.mem_of_getElem? hx)
          have KD := Lib.hid (show Kin w d.rv d.en d.rows d.ents from ⟨(V.out.2 d MD.out).1, (V.out.2 d MD.out).2, (okD_in F.out MD.out).1, (okD_in F.out MD.out).2, (UN.out d MD.out).2⟩)
          have j3 : (0 : Int) ≤ (k : Int) := by omega
          have j4 : (k : Int) < (K : Int) := by omega
          clear hx hk hM
          go_upto_region 11 with (first
            | (refine wpList_load_mid rfl 42 (.tmp 67) rfl b (off + k * 20) rfl d.cells _ hrng Tryd.underlying42 rfl (by kernel_rfl) ?_)
            | (refine wpList_store_mid rfl 42 (.tmp 14) (.tmp 68) rfl wo.heap.size 0 d.cells.toArray rfl rfl (there_new wo _ _) (by kernel_rfl) (all_oneCell_toArray d.cells_one) ?_
               generalize hw2 : World.setCells _ _ _ _ = w3
               have hq := Lib.hid (show Below wo.heap.size wo w3 ∧ w3.rangeAt wo.heap.size 0 d.cells by rw [← hw2]; exact put_new wo _ _ d.cells rfl)
               clear hw2))
          have P4 := Lib.hid (A.out.1.step hq.out.1)
          have a0 := blk_cell P4.out.kA 0
          have a1 := blk_cell P4.out.kA 1
          have a2 := blk_cell P4.out.kA 2
          simp only [List.getElem?_toArray, List.getElem?_cons_zero, List.getElem?_cons_succ] at a0 a1 a2
          have hrng2 := hq.out.2
          have fd := does_arena C w w3 a S n l us (.slice va1 M vc1) d (.slice none 0 0) [] P4.out.du KD.out (UN.out d MD.out).1 P4.out.own.sv (Nat.zero_le _) (by have := UM.out; have := KN.out; omega) HB.out.2.1 HB.out.2.2.2 G.out
          unfold refA doVal DoD.rv DoD.en at fd
          clear hrng hq
          go_wp2_with (refine wpList_load_mid rfl 42 (.tmp 14) rfl wo.heap.size 0 rfl d.cells _ hrng2 Tryd.underlying42 rfl (by kernel_rfl) ?_)
          refine fd.mono ?_
          rintro ev w4 ⟨v4, us4, S4, t1, t2, rfl, hD, hl4, hk4, hn4, -⟩
          unfold refA refV
          have P5 := Lib.hid (P4.out.turn hD hk4 hn4)
          have L4 := Lib.hid (show us4.length ≤ k + 1 by have := UM.out; omega)
          obtain ⟨va4, vc4, rfl, -, -⟩ := hD.own.sv.lenform
          obtain ⟨M4, hM4⟩ : ∃ x, us4.length = x := ⟨_, rfl⟩
          rw [hM4] at P5 ⊢
          have P7 := Lib.hid P5.out.setR
          obtain ⟨s0, s1, s2, s3, s4, s5, -⟩ := three_facts P5.out.kA (.int .i64 n) (.int .i64 l) (.slice va4 M4 vc4)
          have i3 : IntKind.i64.wrap ((k : Int) + 1) = (k : Int) + 1 := Go.IntWalk.i64_in _ (by have := KN.out; omega)
          clear hD hl4 hk4 hn4 hM4 fd a0 a1 a2 hrng2
          go_wp2
          go_roundg (K - (k + 1))
          case measure => have := A.out.2.2; omega
          case rel => exact ⟨k + 1, S4, us4, _, by omega, by go_num, P7.out, L4.out⟩
        · obtain rfl : k = K := by have := A.out.2.2; omega
          have P9 := Lib.hid A.out.1
          have U9 := Lib.hid (show us.length ≤ k by have := UM.out; omega)
          clear hk hM A UM
          go_upto_region 13 with fail
          have n60 : n ≤ 60 := by
            have h := F.out
            unfold fewD at h
            simp only [Bool.and_eq_true, Bool.or_eq_true, decide_eq_true_eq] at h
            have := HB.out
            omega
          go_cut [15, 16, 17] from 78 to 82 (fun cp qp tv wc => ∃ (c : Addr) (S2 : Nat → Prop) (qb : Nat) (told : List Rf), cp = .pointer (some c) ∧ qp = .pointer (some ⟨qb, 0, none⟩) ∧ Tw C w wc n l a S us (.slice va1 M vc1) rb c S2 us (.slice va1 M vc1) qb tv told ∧ told.length ≤ 60)
          case first =>
            have SB := Lib.hid (show ∀ w', Below wo.heap.size wo w' → w'.cell? ⟨rb, 0, none⟩ = some (.int .i64 n) ∧ w'.cell? ⟨rb, 1, none⟩ = some (.int .i64 l) ∧ w'.cell? ⟨rb, 2, none⟩ = some (.slice va1 M vc1) from fun w' h => ⟨blk_cell (blk_step P9.out.kA h) 0, blk_cell (blk_step P9.out.kA h) 1, blk_cell (blk_step P9.out.kA h) 2⟩)
            have L60 := Lib.hid (show (liveM n (us.map PuD.pt)).length ≤ 60 from live60 _ n60)
            have B0 := Lib.hid ((Below.refl wo.heap.size wo).drew)
            refine AnyBut.region (fun w' => w'.cell? ⟨rb, 0, none⟩ = some (.int .i64 n) ∧ w'.cell? ⟨rb, 1, none⟩ = some (.int .i64 l) ∧ w'.cell? ⟨rb, 2, none⟩ = some (.slice va1 M vc1)) 8 (by kernel_rfl) ?_
            refine AnyBut.take (i := 0) (oi := ⟨some 78, _, _, _, _, _⟩) (v := ?vc0) rfl (by kernel_rfl) (by kernel_rfl) (by kernel_rfl) (by kernel_rfl) (fun _ _ _ h => h) (Or.inl ⟨by rfl, ?hyc0⟩) (SB.out _ B0.out) ?restc0
            case hyc0 => (intro w hSw; go_simp; try (with_reducible rfl))
            simp only [Act.put, List.setIfInBounds_toArray, List.set_cons_zero, List.set_cons_succ]
            refine AnyBut.take (i := 2) (oi := ⟨some 80, _, _, _, _, _⟩) (v := ?vc2) rfl (by kernel_rfl) (by kernel_rfl) (by kernel_rfl) (by kernel_rfl) (fun _ _ _ h => h) (Or.inl ⟨by rfl, ?hyc2⟩) (SB.out _ B0.out) ?restc2
            case hyc2 => (intro w hSw; go_simp; try (with_reducible rfl))
            simp only [Act.put, List.setIfInBounds_toArray, List.set_cons_zero, List.set_cons_succ]
            refine AnyBut.take (i := 3) (oi := ⟨some 81, _, _, _, _, _⟩) (v := ?vc3) rfl (by kernel_rfl) (by kernel_rfl) (by kernel_rfl) (by kernel_rfl) (fun _ _ _ h => h) (Or.inl ⟨by rfl, ?hyc3⟩) (SB.out _ B0.out) ?restc3
            case hyc3 => (intro w hSw; go_simp; try (with_reducible rfl))
            simp only [Act.put, List.setIfInBounds_toArray, List.set_cons_zero, List.set_cons_succ]
            refine AnyBut.two (i := 1) (j := 5) (o := ⟨some 79, _, _, _, _, _⟩) (u := ⟨some 16, _, _, _, _, _⟩) (by kernel_rfl) rfl rfl (fun K hK => ?_) (fun K hK => ?_)
            · go_simp
              refine (C.copy a S n l (us.map PuD.pt) _ (P9.out.du.step B0.out).inv).mono ?_
              rintro ev w1 ⟨c, S2, rfl, hI, hS2, hs⟩
              have Bw1 := Lib.hid (Below.trans B0.out (hs.mono (Below.size B0.out)))
              simp only
              refine hK.out _ _ (fun _ => SB.out _ Bw1.out) ?_
              clear hK K
              try simp only [Act.put, List.setIfInBounds_toArray, List.set_cons_zero, List.set_cons_succ]
              have CI := Lib.hid (show C.Inv w1 c S2 n l (us.map PuD.pt) ∧ (∀ k, S2 k → wo.heap.size ≤ k) ∧ (∀ k, S2 k → k < w1.heap.size) from ⟨hI, hS2, fun k h => C.foot hI k h⟩)
              clear hI hS2 hs
              refine AnyBut.two (i := 4) (j := 5) (o := ⟨some 82, _, _, _, _, _⟩) (u := ⟨some 16, _, _, _, _, _⟩) (by kernel_rfl) rfl rfl (fun K hK => ?_) (fun K hK => ?_)
              · go_simp
                refine (C.live a S n l (us.map PuD.pt) _ (P9.out.du.step Bw1.out).inv).mono ?_
                rintro ev w2 ⟨tv, rfl, hlv, hs2⟩
                have Bw2 := Lib.hid (Below.trans Bw1.out (hs2.mono (Below.size Bw1.out)))
                simp only
                refine hK.out _ _ (fun _ => SB.out _ Bw2.out) ?_
                clear hK K
                try simp only [Act.put, List.setIfInBounds_toArray, List.set_cons_zero, List.set_cons_succ]
                refine AnyBut.one (i := 5) (o := ⟨some 16, _, _, _, _, _⟩) (by kernel_rfl) rfl (fun K hK => ?_)
                go_simp
                have bw3 := alloc_below0 w2 (.cells #[.int .i64 0, .int .i64 0, .slice none 0 0] 29)
                have kw3 := blk_new w2 (.cells #[.int .i64 0, .int .i64 0, .slice none 0 0] 29)
                obtain ⟨w3, hw3⟩ : ∃ W, W = w2.alloc (.cells #[.int .i64 0, .int .i64 0, .slice none 0 0] 29) := ⟨_, rfl⟩
                rw [← hw3] at bw3 kw3
                have Bw3 := Lib.hid (Below.trans Bw2.out (bw3.mono (Below.size Bw2.out)))
                rw [← hw3]
                have Zw3 := Lib.hid (show w3.heap.size = w2.heap.size + 1 by rw [hw3]; simp)
                clear hw3
                refine hK.out _ _ (fun _ => SB.out _ Bw3.out) ?_
                clear hK K
                try simp only [Act.put, List.setIfInBounds_toArray, List.set_cons_zero, List.set_cons_succ]
                have ZY := Lib.hid (show w3.heap[w2.heap.size]? = some _ from kw3)
                have QG := Lib.hid (show wo.heap.size ≤ w2.heap.size from Bw2.out.size)
                have TW := Lib.hid (Tw.start P9.out Bw3.out (C.step (C.step CI.out.1 hs2) bw3) CI.out.2.1 ((hlv.below bw3).mono Bw1.out.size) (fun k hk s => by have := (hlv.bounds k hk).1; have := CI.out.2.2 k s; omega) QG.out (fun s => by have := CI.out.2.2 _ s; have := hs2.size; omega) ZY.out)
                refine AnyBut.one (i := 6) (o := ⟨some 15, _, _, _, _, _⟩) (by kernel_rfl) rfl (fun K hK => ?_)
                go_simp
                refine hK.out _ _ (fun _ => (SB.out _ Bw3.out)) ?_
                clear hK K
                try simp only [Act.put, List.setIfInBounds_toArray, List.set_cons_zero, List.set_cons_succ]
                have KZ := ZY.out
                obtain ⟨s0, s1, s2, s3, s4, s5, -⟩ := three_facts KZ (.int .i64 n) (.int .i64 l) (.slice va1 M vc1)
                clear KZ
                refine AnyBut.one (i := 7) (o := ⟨none, _, _, _, _, _⟩) (by kernel_rfl) rfl (fun K hK => ?_)
                go_simp
                refine hK.out _ _ (fun _ => SB.out _ (below_set (below_set (below_set Bw3.out QG.out 0 (.int .i64 n)) QG.out 1 (.int .i64 l)) QG.out 2 (.slice va1 M vc1))) ?_
                clear hK K
                try simp only [Act.put, List.setIfInBounds_toArray, List.set_cons_zero, List.set_cons_succ]
                clear s0 s1 s2 s3 s4 s5
                refine AnyBut.one (i := 8) (o := ⟨some 17, _, _, _, _, _⟩) (by kernel_rfl) rfl (fun K hK => ?_)
                go_simp
                refine hK.out _ _ (fun h => absurd rfl h) ?_
                clear hK K
                try simp only [Act.put, List.setIfInBounds_toArray, List.set_cons_zero, List.set_cons_succ]
                refine AnyBut.done (by kernel_rfl) ?_ _
                go_wp2
                go_meet
                case rel => exact ⟨c, S2, _, _, rfl, rfl, TW.out, L60.out⟩
              · go_simp
                have bw2 := alloc_below0 w1 (.cells #[.int .i64 0, .int .i64 0, .slice none 0 0] 29)
                have kw2 := blk_new w1 (.cells #[.int .i64 0, .int .i64 0, .slice none 0 0] 29)
                obtain ⟨w2, hw2⟩ : ∃ W, W = w1.alloc (.cells #[.int .i64 0, .int .i64 0, .slice none 0 0] 29) := ⟨_, rfl⟩
                rw [← hw2] at bw2 kw2
                have Bw2 := Lib.hid (Below.trans Bw1.out (bw2.mono (Below.size Bw1.out)))
                rw [← hw2]
                have Zw2 := Lib.hid (show w2.heap.size = w1.heap.size + 1 by rw [hw2]; simp)
                clear hw2
                refine hK.out _ _ (fun _ => SB.out _ Bw2.out) ?_
                clear hK K
                try simp only [Act.put, List.setIfInBounds_toArray, List.set_cons_zero, List.set_cons_succ]
                refine AnyBut.one (i := 4) (o := ⟨some 82, _, _, _, _, _⟩) (by kernel_rfl) rfl (fun K hK => ?_)
                go_simp
                refine (C.live a S n l (us.map PuD.pt) _ (P9.out.du.step Bw2.out).inv).mono ?_
                rintro ev w3 ⟨tv, rfl, hlv, hs2⟩
                have Bw3 := Lib.hid (Below.trans Bw2.out (hs2.mono (Below.size Bw2.out)))
                simp only
                refine hK.out _ _ (fun _ => SB.out _ Bw3.out) ?_
                clear hK K
                try simp only [Act.put, List.setIfInBounds_toArray, List.set_cons_zero, List.set_cons_succ]
                have ZY := Lib.hid (show w3.heap[w1.heap.size]? = some _ from blk_step kw2 hs2)
                have QG := Lib.hid (show wo.heap.size ≤ w1.heap.size from Bw1.out.size)
                have TW := Lib.hid (Tw.start P9.out Bw3.out (C.step (C.step CI.out.1 bw2) hs2) CI.out.2.1 (hlv.mono Bw2.out.size) (fun k hk s => by have := (hlv.bounds k hk).1; have := CI.out.2.2 k s; have := bw2.size; omega) QG.out (fun s => by have := CI.out.2.2 _ s; omega) ZY.out)
                refine AnyBut.one (i := 6) (o := ⟨some 15, _, _, _, _, _⟩) (by kernel_rfl) rfl (fun K hK => ?_)
                go_simp
                refine hK.out _ _ (fun _ => (SB.out _ Bw3.out)) ?_
                clear hK K
                try simp only [Act.put, List.setIfInBounds_toArray, List.set_cons_zero, List.set_cons_succ]
                have KZ := ZY.out
                obtain ⟨s0, s1, s2, s3, s4, s5, -⟩ := three_facts KZ (.int .i64 n) (.int .i64 l) (.slice va1 M vc1)
                clear KZ
                refine AnyBut.one (i := 7) (o := ⟨none, _, _, _, _, _⟩) (by kernel_rfl) rfl (fun K hK => ?_)
                go_simp
                refine hK.out _ _ (fun _ => SB.out _ (below_set (below_set (below_set Bw3.out QG.out 0 (.int .i64 n)) QG.out 1 (.int .i64 l)) QG.out 2 (.slice va1 M vc1))) ?_
                clear hK K
                try simp only [Act.put, List.setIfInBounds_toArray, List.set_cons_zero, List.set_cons_succ]
                clear s0 s1 s2 s3 s4 s5
                refine AnyBut.one (i := 8) (o := ⟨some 17, _, _, _, _, _⟩) (by kernel_rfl) rfl (fun K hK => ?_)
                go_simp
                refine hK.out _ _ (fun h => absurd rfl h) ?_
                clear hK K
                try simp only [Act.put, List.setIfInBounds_toArray, List.set_cons_zero, List.set_cons_succ]
                refine AnyBut.done (by kernel_rfl) ?_ _
                go_wp2
                go_meet
                case rel => exact ⟨c, S2, _, _, rfl, rfl, TW.out, L60.out⟩
            · go_simp
              have bw1 := (alloc_below0 wo (.cells #[.int .i64 0, .int .i64 0, .slice none 0 0] 29)).drew
              have kw1 : ((wo.alloc (.cells #[.int .i64 0, .int .i64 0, .slice none 0 0] 29)).drew).heap[wo.heap.size]? = some (.cells #[.int .i64 0, .int .i64 0, .slice none 0 0] 29) := blk_new wo (.cells #[.int .i64 0, .int .i64 0, .slice none 0 0] 29)
              obtain ⟨w1, hw1⟩ : ∃ W, W = (wo.alloc (.cells #[.int .i64 0, .int .i64 0, .slice none 0 0] 29)).drew := ⟨_, rfl⟩
              rw [← hw1] at bw1 kw1
              have Bw1 := Lib.hid bw1
              rw [← hw1]
              have Z1 := Lib.hid (show w1.heap.size = wo.heap.size + 1 by rw [hw1]; exact Array.size_push ..)
              clear hw1
              refine hK.out _ _ (fun _ => SB.out _ Bw1.out) ?_
              clear hK K
              try simp only [Act.put, List.setIfInBounds_toArray, List.set_cons_zero, List.set_cons_succ]
              refine AnyBut.one (i := 1) (o := ⟨some 79, _, _, _, _, _⟩) (by kernel_rfl) rfl (fun K hK => ?_)
              go_simp
              refine (C.copy a S n l (us.map PuD.pt) _ (P9.out.du.step Bw1.out).inv).mono ?_
              rintro ev w2 ⟨c, S2, rfl, hI, hS2, hs⟩
              have Bw2 := Lib.hid (Below.trans Bw1.out (hs.mono (Below.size Bw1.out)))
              simp only
              refine hK.out _ _ (fun _ => SB.out _ Bw2.out) ?_
              clear hK K
              try simp only [Act.put, List.setIfInBounds_toArray, List.set_cons_zero, List.set_cons_succ]
              have CI := Lib.hid (show C.Inv w2 c S2 n l (us.map PuD.pt) ∧ (∀ k, S2 k → w1.heap.size ≤ k) ∧ (∀ k, S2 k → k < w2.heap.size) from ⟨hI, hS2, fun k h => C.foot hI k h⟩)
              have K1 := Lib.hid (blk_step kw1 hs)
              clear hI hS2 hs
              refine AnyBut.one (i := 4) (o := ⟨some 82, _, _, _, _, _⟩) (by kernel_rfl) rfl (fun K hK => ?_)
              go_simp
              refine (C.live a S n l (us.map PuD.pt) _ (P9.out.du.step Bw2.out).inv).mono ?_
              rintro ev w3 ⟨tv, rfl, hlv, hs2⟩
              have Bw3 := Lib.hid (Below.trans Bw2.out (hs2.mono (Below.size Bw2.out)))
              simp only
              refine hK.out _ _ (fun _ => SB.out _ Bw3.out) ?_
              clear hK K
              try simp only [Act.put, List.setIfInBounds_toArray, List.set_cons_zero, List.set_cons_succ]
              have ZY := Lib.hid (show w3.heap[wo.heap.size]? = some _ from blk_step K1.out hs2)
              have QG := Lib.hid (show wo.heap.size ≤ wo.heap.size from Nat.le_refl _)
              have TW := Lib.hid (Tw.start P9.out Bw3.out (C.step CI.out.1 hs2) (fun k s => by have := CI.out.2.1 k s; have := Z1.out; omega) (hlv.mono Bw2.out.size) (fun k hk s => by have := (hlv.bounds k hk).1; have := CI.out.2.2 k s; omega) QG.out (fun s => by have := CI.out.2.1 _ s; have := Z1.out; omega) ZY.out)
              refine AnyBut.one (i := 6) (o := ⟨some 15, _, _, _, _, _⟩) (by kernel_rfl) rfl (fun K hK => ?_)
              go_simp
              refine hK.out _ _ (fun _ => (SB.out _ Bw3.out)) ?_
              clear hK K
              try simp only [Act.put, List.setIfInBounds_toArray, List.set_cons_zero, List.set_cons_succ]
              have KZ := ZY.out
              obtain ⟨s0, s1, s2, s3, s4, s5, -⟩ := three_facts KZ (.int .i64 n) (.int .i64 l) (.slice va1 M vc1)
              clear KZ
              refine AnyBut.one (i := 7) (o := ⟨none, _, _, _, _, _⟩) (by kernel_rfl) rfl (fun K hK => ?_)
              go_simp
              refine hK.out _ _ (fun _ => SB.out _ (below_set (below_set (below_set Bw3.out QG.out 0 (.int .i64 n)) QG.out 1 (.int .i64 l)) QG.out 2 (.slice va1 M vc1))) ?_
              clear hK K
              try simp only [Act.put, List.setIfInBounds_toArray, List.set_cons_zero, List.set_cons_succ]
              clear s0 s1 s2 s3 s4 s5
              refine AnyBut.one (i := 8) (o := ⟨some 17, _, _, _, _, _⟩) (by kernel_rfl) rfl (fun K hK => ?_)
              go_simp
              refine hK.out _ _ (fun h => absurd rfl h) ?_
              clear hK K
              try simp only [Act.put, List.setIfInBounds_toArray, List.set_cons_zero, List.set_cons_succ]
              refine AnyBut.done (by kernel_rfl) ?_ _
              go_wp2
              go_meet
              case rel => exact ⟨c, S2, _, _, rfl, rfl, TW.out, L60.out⟩
          case rest =>
            obtain ⟨c, S2, qb, told, rfl, rfl, hT, htl⟩ := hcut
            obtain ⟨wa, hwa⟩ : ∃ u, u = wc := ⟨_, rfl⟩
            subst hwa
            have T0 := Lib.hid hT
            have TL := Lib.hid htl
            clear hT htl
            obtain ⟨kq, hkq⟩ : ∃ u, u = k := ⟨_, rfl⟩
            subst hkq
            obtain ⟨Sq, hSq⟩ : ∃ u, u = S := ⟨_, rfl⟩
            subst hSq
            obtain ⟨usq, husq⟩ : ∃ u, u = us := ⟨_, rfl⟩
            subst husq
            have HM2 := Lib.hid (show kq ≤ N ∧ N ≤ 60 from HM.out)
            go_upto_region 14 with fail
            go_cut [85, 86, 87] from 83 to 87 (fun sv ln i wc => ∃ (a' : Option Addr) (c' : Nat), sv = .slice a' (N - kq) c' ∧ (kq < N → SV lDo w sv (ds.drop kq)) ∧ ln = .int .i64 ((N - kq : Nat) : Int) ∧ i = .int .i64 0 ∧ wc = wa)
            case first =>
              by_cases hkm : kq < N
              · obtain ⟨b, off, ha⟩ := V.out.1.addr (by rw [LN.out]; omega)
                subst ha
                have hck : ¬ vc = kq := by omega
                go_wp2
                go_meet
                case rel => exact ⟨_, _, rfl, fun _ => V.out.1.dropV (k := kq) (by rw [LN.out]; omega) (by omega), rfl, rfl, rfl⟩
              · obtain rfl : N = kq := by have := HM2.out; omega
                by_cases hck : N = vc
                · subst hck
                  go_wp2
                  go_meet
                  case rel => exact ⟨_, _, (by simp; exact ⟨rfl, rfl⟩), fun h => absurd h hkm, (by simp), rfl, rfl⟩
                · go_wp2
                  go_meet
                  case rel => exact ⟨_, _, (by simp; exact ⟨rfl, rfl⟩), fun h => absurd h hkm, (by simp), rfl, rfl⟩
            case rest =>
              obtain ⟨a2, c2, rfl, hSV, rfl, rfl, rfl⟩ := hcut
              have HV2 := Lib.hid hSV
              clear hSV
              go_wp2_with fail
              go_loopg [87] (N - kq) (fun r i wz => ∃ (k : Nat) (S : Nat → Prop) (us : List PuD) (v : Value), k + r = N - kq ∧ i = .int .i64 k ∧ Tw C w wz n l a S us v rb c S2 usq (.slice va1 M vc1) qb u17 told ∧ us.length ≤ kq + k)
              case atStart => exact ⟨0, Sq, usq, _, by omega, by go_num, T0.out, by have := U9.out; omega⟩
              case round =>
                obtain ⟨wo, hwo⟩ : ∃ x, x = wr := ⟨_, rfl⟩
                subst hwo
                obtain ⟨go, hgo⟩ : ∃ x, x = gk := ⟨_, rfl⟩
                subst hgo
                obtain ⟨k, S, us, vv, hk, rfl, hT, hu⟩ := hrel
                obtain ⟨va2, vc2, rfl, -, -⟩ := hT.p.own.sv.lenform
                obtain ⟨M2, hM2⟩ : ∃ x, us.length = x := ⟨_, rfl⟩
                rw [hM2] at hT
                have A := Lib.hid (show Tw C w wo n l a S us (.slice va2 M2 vc2) rb c S2 usq (.slice va1 M vc1) qb u17 told ∧ k + go = N - kq from ⟨hT, hk⟩)
                have UM := Lib.hid (show us.length = M2 ∧ M2 ≤ kq + k from ⟨hM2, hM2 ▸ hu⟩)
                clear hT hu
                by_cases hlt : k < N - kq
                · have KN := Lib.hid (show kq + k < 60 by have := HM2.out; omega)
                  obtain ⟨b, off, ha⟩ := (HV2.out (by omega)).addr (by rw [List.length_drop, LN.out]; omega)
                  subst ha
                  obtain ⟨d, hx⟩ : ∃ d, (ds.drop kq)[k]? = some d := ⟨_, List.getElem?_eq_getElem (by rw [List.length_drop, LN.out]; exact hlt)⟩
                  have hrng : wo.rangeAt b (off + k * 20) d.cells := fun j v hj => cell_step ((HV2.out (by omega)).cellAt (j := j) hx hj) A.out.1.p.low
                  have MD := Lib.hid (show d ∈ ds from List.mem_of_mem_drop (List.mem_of_getElem? hx))
                  have KD := Lib.hid (show Kin w d.rv d.en d.rows d.ents from ⟨(V.out.2 d MD.out).1, (V.out.2 d MD.out).2, (okD_in F.out MD.out).1, (okD_in F.out MD.out).2, (UN.out d MD.out).2⟩)
                  have j3 : (0 : Int) ≤ (k : Int) := by omega
                  have j4 : (k : Int) < ((N - kq : Nat) : Int) := by omega
                  clear hx hk hM2
                  go_upto_region 17 with (first
                    | (refine wpList_load_mid rfl 42 (.tmp 89) rfl b (off + k * 20) rfl d.cells _ hrng Tryd.underlying42 rfl (by kernel_rfl) ?_)
                    | (refine wpList_store_mid rfl 42 (.tmp 19) (.tmp 90) rfl wo.heap.size 0 d.cells.toArray rfl rfl (there_new wo _ _) (by kernel_rfl) (all_oneCell_toArray d.cells_one) ?_
                       generalize hw2 : World.setCells _ _ _ _ = w3
                       have hq := Lib.hid (show Below wo.heap.size wo w3 ∧ w3.rangeAt wo.heap.size 0 d.cells by rw [← hw2]; exact put_new wo _ _ d.cells rfl)
                       clear hw2))
                  have T4 := Lib.hid (A.out.1.step hq.out.1)
                  have a0 := blk_cell T4.out.kA 0
                  have a1 := blk_cell T4.out.kA 1
                  have a2 := blk_cell T4.out.kA 2
                  simp only [List.getElem?_toArray, List.getElem?_cons_zero, List.getElem?_cons_succ] at a0 a1 a2
                  have hrng2 := hq.out.2
                  have fd := does_arena C w w3 a S n l us (.slice va2 M2 vc2) d u17 told T4.out.p KD.out (UN.out d MD.out).1 T4.out.st.sv TL.out (by have := UM.out; have := KN.out; omega) HB.out.2.1 HB.out.2.2.2 G.out
                  unfold refA doVal DoD.rv DoD.en at fd
                  clear hrng hq
                  go_wp2_with (refine wpList_load_mid rfl 42 (.tmp 19) rfl wo.heap.size 0 rfl d.cells _ hrng2 Tryd.underlying42 rfl (by kernel_rfl) ?_)
                  refine fd.mono ?_
                  rintro ev w4 ⟨v4, us4, S4, t1, t2, rfl, hD, hl4, hk4, hn4, hv4⟩
                  unfold refA refV
                  have T5 := Lib.hid (T4.out.does hD hk4 hn4 hv4)
                  have L4 := Lib.hid (show us4.length ≤ kq + (k + 1) by have := UM.out; omega)
                  obtain ⟨va4, vc4, rfl, -, -⟩ := hD.own.sv.lenform
                  obtain ⟨M4, hM4⟩ : ∃ x, us4.length = x := ⟨_, rfl⟩
                  rw [hM4] at T5 ⊢
                  obtain ⟨s0, s1, s2, s3, s4, s5, -⟩ := three_facts T5.out.1 (.int .i64 n) (.int .i64 l) (.slice va4 M4 vc4)
                  have i3 : IntKind.i64.wrap ((k : Int) + 1) = (k : Int) + 1 := Go.IntWalk.i64_in _ (by have := KN.out; omega)
                  clear hD hl4 hk4 hn4 hv4 hM4 fd a0 a1 a2 hrng2
                  go_wp2
                  go_roundg (N - kq - (k + 1))
                  case measure => have := A.out.2; omega
                  case rel => exact ⟨k + 1, S4, us4, _, by omega, by go_num, T5.out.2, L4.out⟩
                · have T7 := Lib.hid A.out.1
                  clear hk hM2 A UM
                  obtain ⟨S7, hS7⟩ : ∃ u, u = S := ⟨_, rfl⟩
                  subst hS7
                  obtain ⟨us7, hus7⟩ : ∃ u, u = us := ⟨_, rfl⟩
                  subst hus7
                  obtain ⟨va7, hva7⟩ : ∃ u, u = va2 := ⟨_, rfl⟩
                  subst hva7
                  obtain ⟨vc7, hvc7⟩ : ∃ u, u = vc2 := ⟨_, rfl⟩
                  subst hvc7
                  obtain ⟨M7, hM7⟩ : ∃ u, u = M2 := ⟨_, rfl⟩
                  subst hM7
                  have i0 : IntKind.i64.wrap ((N : Int) - 1) = (N : Int) - 1 := Go.IntWalk.i64_in _ (by have := HM2.out; omega)
                  go_wp2_with fail
                  go_loopg [20] (N - kq) (fun r i wz => ∃ (ji : Int) (k0 : Nat) (S : Nat → Prop) (us : List PuD) (v : Value), i = .int .i64 ji ∧ ji = (kq : Int) + r - 1 ∧ k0 + r ≤ 60 ∧ r ≤ N - kq ∧ Tw C w wz n l a S7 us7 (.slice va7 M7 vc7) rb c S us v qb u17 told ∧ us.length ≤ k0)
                  case atStart => exact ⟨_, kq, S2, usq, _, rfl, by have := HM2.out; omega, by have := HM2.out; omega, Nat.le_refl _, T7.out, U9.out⟩
                  case round =>
                    obtain ⟨ji, k0, S, us, vv, rfl, hji, hk0, hr, hT, hu⟩ := hrel
                    by_cases hlt : (kq : Int) ≤ ji
                    · obtain ⟨j, rfl⟩ : ∃ j : Nat, ji = j := ⟨ji.toNat, by omega⟩
                      have HJ := Lib.hid (show j < N ∧ N ≤ 60 ∧ 1 ≤ gk ∧ (j : Int) = (kq : Int) + gk - 1 ∧ k0 + gk ≤ 60 ∧ gk ≤ N - kq from by have := HM2.out; omega)
                      obtain ⟨b, off, ha⟩ := V.out.1.addr (by rw [LN.out]; have := HJ.out; omega)
                      subst ha
                      obtain ⟨d, hx⟩ : ∃ d, ds[j]? = some d := ⟨_, List.getElem?_eq_getElem (by rw [LN.out]; exact HJ.out.1)⟩
                      have MD := Lib.hid (show d ∈ ds from List.mem_of_getElem? hx)
                      have KD := Lib.hid (show Kin w d.rv d.en d.rows d.ents from ⟨(V.out.2 d MD.out).1, (V.out.2 d MD.out).2, (okD_in F.out MD.out).1, (okD_in F.out MD.out).2, (UN.out d MD.out).2⟩)
                      have HS := Lib.hid (show ∀ w', Below w.heap.size w w' → w'.rangeAt b (off + j * 20) d.cells from fun w' h j' v hj => cell_step (V.out.1.cellAt (j := j') hx hj) h)
                      obtain ⟨va5, vc5, rfl, -, -⟩ := hT.q.own.sv.lenform
                      obtain ⟨M5, hM5⟩ : ∃ x, us.length = x := ⟨_, rfl⟩
                      rw [hM5] at hT
                      have UM := Lib.hid (show us.length = M5 ∧ M5 ≤ k0 from ⟨hM5, hM5 ▸ hu⟩)
                      have T3 := Lib.hid (hT.swap.step (Below.refl _ _).drew)
                      have SD := Lib.hid (HS.out wr.drew T3.out.p.low)
                      have fd := does_arena C w wr.drew c S n l us (.slice va5 M5 vc5) d u17 told T3.out.p KD.out (UN.out d MD.out).1 T3.out.st.sv TL.out (by have := UM.out; have := HJ.out; omega) HB.out.2.1 HB.out.2.2.2 G.out
                      unfold refA doVal DoD.rv DoD.en at fd
                      have i1 : IntKind.i64.wrap ((j : Int) - 1) = (j : Int) - 1 := Go.IntWalk.i64_in _ (by have := HJ.out; omega)
                      have j3 : (0 : Int) ≤ (j : Int) := by omega
                      have j4 : (j : Int) < (N : Int) := by have := HJ.out; omega
                      clear hji hk0 hr hT hu hx hM5
                      go_wp2_with fail
                      refine AnyBut.region (fun w' => w'.rangeAt b (off + j * 20) d.cells) 13 (by kernel_rfl) ?_
                      refine AnyBut.take (i := 0) (oi := ⟨some 112, _, _, _, _, _⟩) (v := ?vr0) rfl (by kernel_rfl) (by kernel_rfl) (by kernel_rfl) (by kernel_rfl) (fun _ _ _ h => h) (Or.inl ⟨by rfl, ?hyr0⟩) SD.out ?restr0
                      case hyr0 => (intro w hSw; go_simp; try (with_reducible rfl))
                      simp only [Act.put, List.setIfInBounds_toArray, List.set_cons_zero, List.set_cons_succ]
                      refine AnyBut.take (i := 2) (oi := ⟨some 114, _, _, _, _, _⟩) (v := ?vr2) rfl (by kernel_rfl) (by kernel_rfl) (by kernel_rfl) (by kernel_rfl) (fun _ _ _ h => h) (Or.inl ⟨by rfl, ?hyr2⟩) SD.out ?restr2
                      case hyr2 => (intro w hSw; go_simp; try (with_reducible rfl))
                      simp only [Act.put, List.setIfInBounds_toArray, List.set_cons_zero, List.set_cons_succ]
                      refine AnyBut.take (i := 3) (oi := ⟨some 115, _, _, _, _, _⟩) (v := ?vr3) rfl (by kernel_rfl) (by kernel_rfl) (by kernel_rfl) (by kernel_rfl) (fun _ _ _ h => h) (Or.inl ⟨by rfl, ?hyr3⟩) SD.out ?restr3
                      case hyr3 => (intro w hSw; go_simp; try (with_reducible rfl))
                      simp only [Act.put, List.setIfInBounds_toArray, List.set_cons_zero, List.set_cons_succ]
                      refine AnyBut.take (i := 4) (oi := ⟨some 116, _, _, _, _, _⟩) (v := ?vr4) rfl (by kernel_rfl) (by kernel_rfl) (by kernel_rfl) (by kernel_rfl) (fun _ _ _ h => h) (Or.inl ⟨by rfl, ?hyr4⟩) SD.out ?restr4
                      case hyr4 => (intro w hSw; go_simp; try (with_reducible rfl))
                      simp only [Act.put, List.setIfInBounds_toArray, List.set_cons_zero, List.set_cons_succ]
                      refine AnyBut.take (i := 6) (oi := ⟨some 118, _, _, _, _, _⟩) (v := ?vr6) rfl (by kernel_rfl) (by kernel_rfl) (by kernel_rfl) (by kernel_rfl) (fun _ _ _ h => h) (Or.inl ⟨by rfl, ?hyr6⟩) SD.out ?restr6
                      case hyr6 => (intro w hSw; go_simp; try (with_reducible rfl))
                      simp only [Act.put, List.setIfInBounds_toArray, List.set_cons_zero, List.set_cons_succ]
                      refine AnyBut.take (i := 5) (oi := ⟨some 117, _, _, _, _, _⟩) (v := .agg d.cells.toArray) rfl (by kernel_rfl) (by kernel_rfl) (by kernel_rfl) (by kernel_rfl) (fun _ _ _ h => h) (yieldsIf_load_mid (by rfl) 42 (.tmp 116) rfl b (off + j * 20) rfl d.cells _ (fun _ h => h) Tryd.underlying42 rfl (by kernel_rfl)) SD.out ?_
                      simp only [Act.put, List.setIfInBounds_toArray, List.set_cons_zero, List.set_cons_succ]
                      have a0 := blk_cell T3.out.kA 0
                      have a1 := blk_cell T3.out.kA 1
                      have a2 := blk_cell T3.out.kA 2
                      simp only [List.getElem?_toArray, List.getElem?_cons_zero, List.getElem?_cons_succ] at a0 a1 a2
                      refine AnyBut.one (i := 1) (o := ⟨some 113, _, _, _, _, _⟩) (by kernel_rfl) rfl (fun K hK => ?_)
                      go_simp
                      refine hK.out _ _ (fun _ => SD.out) ?_
                      clear hK K
                      try simp only [Act.put, List.setIfInBounds_toArray, List.set_cons_zero, List.set_cons_succ]
                      clear a0 a1 a2
                      refine AnyBut.one (i := 7) (o := ⟨some 119, _, _, _, _, _⟩) (by kernel_rfl) rfl (fun K hK => ?_)
                      go_simp
                      refine fd.mono ?_
                      rintro ev w4 ⟨v4, us4, S4, t1, t2, rfl, hD, hl4, hk4, hn4, hv4⟩
                      unfold refA refV
                      have T5 := Lib.hid (T3.out.does hD hk4 hn4 hv4)
                      have L4 := Lib.hid (show us4.length ≤ k0 + 1 by have := UM.out; omega)
                      have S4w := Lib.hid (HS.out w4 hD.low)
                      have SE := Lib.hid (HS.out _ T5.out.2.p.low)
                      obtain ⟨va4, vc4, rfl, -, -⟩ := hD.own.sv.lenform
                      obtain ⟨M4, hM4⟩ : ∃ x, us4.length = x := ⟨_, rfl⟩
                      rw [hM4] at T5 SE ⊢
                      obtain ⟨s0, s1, s2, s3, s4, s5, -⟩ := three_facts T5.out.1 (.int .i64 n) (.int .i64 l) (.slice va4 M4 vc4)
                      clear hD hl4 hk4 hn4 hv4 hM4 fd
                      simp only
                      refine hK.out _ _ (fun _ => S4w.out) ?_
                      clear hK K
                      try simp only [Act.put, List.setIfInBounds_toArray, List.set_cons_zero, List.set_cons_succ]
                      refine AnyBut.take (i := 8) (oi := ⟨some 111, _, _, _, _, _⟩) (v := ?vr8) rfl (by kernel_rfl) (by kernel_rfl) (by kernel_rfl) (by kernel_rfl) (fun _ _ _ h => h) (Or.inl ⟨by rfl, ?hyr8⟩) S4w.out ?restr8
                      case hyr8 => (intro w hSw; go_simp; try (with_reducible rfl))
                      simp only [Act.put, List.setIfInBounds_toArray, List.set_cons_zero, List.set_cons_succ]
                      refine AnyBut.take (i := 9) (oi := ⟨some 120, _, _, _, _, _⟩) (v := ?vr9) rfl (by kernel_rfl) (by kernel_rfl) (by kernel_rfl) (by kernel_rfl) (fun _ _ _ h => h) (Or.inl ⟨by rfl, ?hyr9⟩) S4w.out ?restr9
                      case hyr9 => (intro w hSw; go_simp; try (with_reducible rfl))
                      simp only [Act.put, List.setIfInBounds_toArray, List.set_cons_zero, List.set_cons_succ]
                      refine AnyBut.take (i := 10) (oi := ⟨some 121, _, _, _, _, _⟩) (v := ?vr10) rfl (by kernel_rfl) (by kernel_rfl) (by kernel_rfl) (by kernel_rfl) (fun _ _ _ h => h) (Or.inl ⟨by rfl, ?hyr10⟩) S4w.out ?restr10
                      case hyr10 => (intro w hSw; go_simp; try (with_reducible rfl))
                      simp only [Act.put, List.setIfInBounds_toArray, List.set_cons_zero, List.set_cons_succ]
                      refine AnyBut.take (i := 11) (oi := ⟨some 122, _, _, _, _, _⟩) (v := ?vr11) rfl (by kernel_rfl) (by kernel_rfl) (by kernel_rfl) (by kernel_rfl) (fun _ _ _ h => h) (Or.inl ⟨by rfl, ?hyr11⟩) S4w.out ?restr11
                      case hyr11 => (intro w hSw; go_simp; try (with_reducible rfl))
                      simp only [Act.put, List.setIfInBounds_toArray, List.set_cons_zero, List.set_cons_succ]
                      refine AnyBut.one (i := 12) (o := ⟨none, _, _, _, _, _⟩) (by kernel_rfl) rfl (fun K hK => ?_)
                      go_simp
                      refine hK.out _ _ (fun _ => SE.out) ?_
                      clear hK K
                      try simp only [Act.put, List.setIfInBounds_toArray, List.set_cons_zero, List.set_cons_succ]
                      clear s0 s1 s2 s3 s4 s5
                      refine AnyBut.one (i := 13) (o := ⟨some 11, _, _, _, _, _⟩) (by kernel_rfl) rfl (fun K hK => ?_)
                      go_simp
                      refine hK.out _ _ (fun h => absurd rfl h) ?_
                      clear hK K
                      try simp only [Act.put, List.setIfInBounds_toArray, List.set_cons_zero, List.set_cons_succ]
                      refine AnyBut.done (by kernel_rfl) ?_ _
                      go_wp2
                      go_roundg (gk - 1)
                      case measure => have := HJ.out; omega
                      case rel => exact ⟨(j : Int) - 1, k0 + 1, S4, us4, _, by go_num, by have := HJ.out; omega, by have := HJ.out; omega, by have := HJ.out; omega, T5.out.2.swap, L4.out⟩
                    · skip
                      have T8 := Lib.hid hT
                      obtain ⟨w8, hw8⟩ : ∃ u, u = wr := ⟨_, rfl⟩
                      subst hw8
                      obtain ⟨va5, vc5, rfl, -, -⟩ := hT.q.own.sv.lenform
                      obtain ⟨M5, hM5⟩ : ∃ x, us.length = x := ⟨_, rfl⟩
                      rw [hM5] at T8
                      clear hji hk0 hr hT hu hM5
                      have z0 := blk_cell T8.out.kA 0
                      have z1 := blk_cell T8.out.kA 1
                      have z2 := blk_cell T8.out.kA 2
                      have z3 := blk_cell T8.out.kB 0
                      have z4 := blk_cell T8.out.kB 1
                      have z5 := blk_cell T8.out.kB 2
                      simp only [List.getElem?_toArray, List.getElem?_cons_zero, List.getElem?_cons_succ] at z0 z1 z2 z3 z4 z5
                      have fa1 := fun w h => C.live a S7 n l (us7.map PuD.pt) w h
                      have fa2 := fun w h => rf_live n l (.slice va7 M7 vc7) us7 w h HB.out.2.1
                      have fc1 := fun w h => C.live c S n l (us.map PuD.pt) w h
                      have fc2 := fun w h => rf_live n l (.slice va5 M5 vc5) us w h HB.out.2.1
                      have fs1 := fun v u w h1 h2 => rf_same v u (liveM n (us7.map PuD.pt)) w h1 h2
                      have fs2 := fun v u w h1 h2 => rf_same v u (liveM n (us.map PuD.pt)) w h1 h2
                      unfold refA at fa2 fc2
                      go_wp2_with fail
                      go_region_held3 (fun w' => w'.cell? ⟨rb, 0, none⟩ = some (.int .i64 n) ∧ w'.cell? ⟨rb, 1, none⟩ = some (.int .i64 l) ∧ w'.cell? ⟨rb, 2, none⟩ = some (.slice va7 M7 vc7) ∧ w'.cell? ⟨qb, 0, none⟩ = some (.int .i64 n) ∧ w'.cell? ⟨qb, 1, none⟩ = some (.int .i64 l) ∧ w'.cell? ⟨qb, 2, none⟩ = some (.slice va5 M5 vc5)) (first | exact ⟨by assumption, by assumption, by assumption, by assumption, by assumption, by assumption⟩ | go_keep)
                        (first
                          | (go_at_call 11; (with_reducible refine (fa1 _ ?_).mono ?_); exact (T8.out.step (Below.refl _ _).drew).p.inv; rintro e9 w9 ⟨v9, rfl, ho9, hs⟩; have BA := Lib.hid ((Below.refl _ w8).drew.trans hs); have a0 := cell_step z0 BA.out; have a1 := cell_step z1 BA.out; have a2 := cell_step z2 BA.out; have a3 := cell_step z3 BA.out; have a4 := cell_step z4 BA.out; have a5 := cell_step z5 BA.out; have SV9 := Lib.hid ho9.sv; clear hs ho9)
                          | (go_at_call 12; (with_reducible refine (fa2 _ ?_).mono ?_); exact (T8.out.step BA.out).p.own.sv; rintro e10 w10 ⟨v10, rfl, ho10, hs⟩; have BB := Lib.hid (BA.out.trans (hs.mono BA.out.size)); have b0 := cell_step a0 hs; have b1 := cell_step a1 hs; have b2 := cell_step a2 hs; have b3 := cell_step a3 hs; have b4 := cell_step a4 hs; have b5 := cell_step a5 hs; have SV10 := Lib.hid ho10.sv; have SV11 := Lib.hid (SV9.out.below hs); clear hs ho10)
                          | (go_at_call 10; (with_reducible refine (fs1 _ _ _ ?_ ?_).mono ?_); exact SV11.out; exact SV10.out; rintro e11 w11 ⟨rfl, hs⟩; have BC := Lib.hid (BB.out.trans (hs.mono BB.out.size)); have c0 := cell_step b0 hs; have c1 := cell_step b1 hs; have c2 := cell_step b2 hs; have c3 := cell_step b3 hs; have c4 := cell_step b4 hs; have c5 := cell_step b5 hs; clear hs)
                          | (go_at_call 11; (with_reducible refine (fc1 _ ?_).mono ?_); exact (T8.out.step BC.out).q.inv; rintro e12 w12 ⟨v12, rfl, ho12, hs⟩; have BD := Lib.hid (BC.out.trans (hs.mono BC.out.size)); have d0 := cell_step c0 hs; have d1 := cell_step c1 hs; have d2 := cell_step c2 hs; have d3 := cell_step c3 hs; have d4 := cell_step c4 hs; have d5 := cell_step c5 hs; have SV12 := Lib.hid ho12.sv; clear hs ho12)
                          | (go_at_call 12; (with_reducible refine (fc2 _ ?_).mono ?_); exact (T8.out.step BD.out).q.own.sv; rintro e13 w13 ⟨v13, rfl, ho13, hs⟩; have BE := Lib.hid (BD.out.trans (hs.mono BD.out.size)); have e0 := cell_step d0 hs; have e1 := cell_step d1 hs; have e2 := cell_step d2 hs; have e3 := cell_step d3 hs; have e4 := cell_step d4 hs; have e5 := cell_step d5 hs; have SV13 := Lib.hid ho13.sv; have SV14 := Lib.hid (SV12.out.below hs); clear hs ho13)
                          | (go_at_call 10; (with_reducible refine (fs2 _ _ _ ?_ ?_).mono ?_); exact SV14.out; exact SV13.out; rintro e14 w14 ⟨rfl, hs⟩; have BF := Lib.hid (BE.out.trans (hs.mono BE.out.size)); have f0 := cell_step e0 hs; have f1 := cell_step e1 hs; have f2 := cell_step e2 hs; have f3 := cell_step e3 hs; have f4 := cell_step e4 hs; have f5 := cell_step e5 hs; clear hs)
                          | (go_at_call 6; (with_reducible refine (awakeA C _).mono ?_); rintro e15 w15 ⟨rfl, hs⟩; have BG := Lib.hid (BF.out.trans (hs.mono BF.out.size)); have g0 := cell_step f0 hs; have g1 := cell_step f1 hs; have g2 := cell_step f2 hs; have g3 := cell_step f3 hs; have g4 := cell_step f4 hs; have g5 := cell_step f5 hs; clear hs))
                      go_wp2
                      go_ret
                      exact ⟨rfl, (T8.out.step BG.out).p.low⟩
end Go.Proofs.YtndlpmdgegodpaaDoor
