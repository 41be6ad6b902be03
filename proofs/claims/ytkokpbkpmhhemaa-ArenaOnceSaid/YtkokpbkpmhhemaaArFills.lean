/- The walk of the law ArenaFills, out of package arena's contracts. -/
import Derived.Test.YtkokpbkpmhhemaaArPure
namespace Go.Proofs.Ytkokpbkpmhhemaa
open Go.RowKit

set_option maxRecDepth 100000 in
set_option maxHeartbeats 4000000 in
theorem lawFills (C : ArC) (sl : Int) (s : Sc) (rv en : Value) (rows : List Rw) (ents : List En) (w : World) (hr : SV lRow w rv rows) (he : SV lEnt w en ents) :
    Calls Try.prog 5 #[.int .i64 sl, recVal s rv en] w fun ev w' => ev = .returned (.bool true) ∧ Below w.heap.size w w' := by
  have hnot : ∀ (x : Bool) (w : World), (Op.unary .not (.bool x)).run Try.prog w = .ok (.bool (!x)) w := fun _ _ => rfl
  obtain ⟨ra, rc, rfl, -, -⟩ := hr.lenform
  obtain ⟨ea, ec, rfl, -, -⟩ := he.lenform
  obtain ⟨W, hW⟩ : ∃ W, W = w.alloc (recObj s (.slice ra rows.length rc) (.slice ea ents.length ec)) := ⟨_, rfl⟩
  have b0 := alloc_below0 w (recObj s (.slice ra rows.length rc) (.slice ea ents.length ec))
  have D := RB.new s (.slice ra rows.length rc) (.slice ea ents.length ec) w
  rw [← hW] at b0 D
  have Z := Lib.hid (show W.heap.size = w.heap.size + 1 by rw [hW]; simp)
  have B0 := Lib.hid b0
  have D0 := Lib.hid D
  have HR := Lib.hid hr
  have HE := Lib.hid he
  unfold recVal
  unfold recObj at hW
  by_cases h1 : 1 ≤ sl
  · by_cases h1' : sl ≤ 60
    · obtain ⟨n, rfl⟩ : ∃ n : Nat, sl = n := ⟨sl.toNat, by omega⟩
      by_cases h2 : rows.length ≤ 60
      · by_cases h3 : ents.length ≤ 60
        · have K := Lib.hid (show rows.length ≤ 1000 ∧ ents.length ≤ 1000 from ⟨by omega, by omega⟩)
          have h13 : 1 ≤ n := by omega
          have h14 : n ≤ 60 := by omega
          have N := Lib.hid h13
          have ok := Lib.hid (show okN (n : Int) ((1 : Nat) : Int) = true by unfold okN; simp; omega)
          clear hr he D b0
          go_enter Try.func5, Try.ntmps5
          go_wp2_with fail
          rw [← hW]
          refine (C.new n 1 _ ok.out).mono ?_
          rintro ev w1 ⟨a, S1, rfl, hI, hS, hs⟩
          have I1 := Lib.hid hI
          have G1 := Lib.hid hS
          have M1 := Lib.hid (show Below W.heap.size W w1 ∧ W.heap.size ≤ w1.heap.size from ⟨hs, hs.size⟩)
          clear hI hS hs hW
          go_wp2
          go_loopg [36] n (fun r i wz => ∃ (k : Nat) (S : Nat → Prop), k + r = n ∧ i = .int .i64 k ∧ C.Inv wz a S n 1 (fillP ⟨s, rows, ents⟩ k) ∧ (∀ j, S j → W.heap.size ≤ j) ∧ Below W.heap.size W wz ∧ W.heap.size ≤ wz.heap.size)
          case atStart => exact ⟨0, S1, by omega, rfl, I1.out, G1.out, M1.out⟩
          case round =>
            obtain ⟨k, S, hk, rfl, hI, hG, hM⟩ := hrel
            have I2 := Lib.hid hI
            have G2 := Lib.hid hG
            have M2 := Lib.hid hM
            have RV := Lib.hid (show RecV wr (recVal s (.slice ra rows.length rc) (.slice ea ents.length ec)) ⟨s, rows, ents⟩ from ⟨_, _, rfl, HR.out.below (B0.out.trans (hM.1.mono (by rw [Z.out]; omega))), HE.out.below (B0.out.trans (hM.1.mono (by rw [Z.out]; omega)))⟩)
            have DD := Lib.hid (D0.out.low hM.1 (by rw [Z.out]; omega))
            clear hI hG hM
            unfold recVal at RV
            by_cases hlt : k < n
            · have d0 := DD.out.c0
              have d1 := DD.out.c1
              have d2 := DD.out.c2
              have d3 := DD.out.c3
              have d4 := DD.out.c4
              have d5 := DD.out.c5
              have d6 := DD.out.c6
              have d7 := DD.out.c7
              have d8 := DD.out.c8
              have d9 := DD.out.c9
              have d10 := DD.out.c10
              have d11 := DD.out.c11
              have d12 := DD.out.c12
              have d13 := DD.out.c13
              have d14 := DD.out.c14
              have i1 : IntKind.i64.wrap ((k : Int) + 1) = (k : Int) + 1 := Go.IntWalk.i64_in _ (by omega)
              go_wp2_with fail
              refine (alloc_as C a _ S n 1 (fillP ⟨s, rows, ents⟩ k) ⟨s, rows, ents⟩ (k + 1) 1 0 ((k : Int) + 1) 1 .nilIface (fillP ⟨s, rows, ents⟩ (k + 1)) _ I2.out RV.out K.out.1 K.out.2 (allocM_fill _ hlt) (putM_fill _ hlt) rfl rfl rfl).mono ?_
              rintro ev w2 ⟨S2, rfl, hI, hk2, hS⟩
              have T := Lib.hid (mut_step G2.out M2.out.1 M2.out.2 hk2 hS)
              have b1 := alloc_below0 w2 (.cells #[.int .i64 ((k : Int) + 1), .int .i64 1] 34)
              have I3 := Lib.hid (C.step hI b1)
              have M3 := Lib.hid (low_move ⟨T.out.1, T.out.2.2⟩ b1)
              clear hI hk2 hS b1
              clear d0 d1 d2 d3 d4 d5 d6 d7 d8 d9 d10 d11 d12 d13 d14
              have e1 : ((k : Int) + 1 == (k : Int) + 1) = true := by simp
              have e2 : ((k : Int) + 1 != (k : Int) + 1) = false := by simp
              go_wp2
              go_roundg (n - (k + 1))
              case measure => omega
              case rel => exact ⟨k + 1, S2, by omega, by go_num, I3.out, T.out.2.1, M3.out⟩
            · have hkn : k = n := by omega
              subst hkn
              have d0 := DD.out.c0
              have d1 := DD.out.c1
              have d2 := DD.out.c2
              have d3 := DD.out.c3
              have d4 := DD.out.c4
              have d5 := DD.out.c5
              have d6 := DD.out.c6
              have d7 := DD.out.c7
              have d8 := DD.out.c8
              have d9 := DD.out.c9
              have d10 := DD.out.c10
              have d11 := DD.out.c11
              have d12 := DD.out.c12
              have d13 := DD.out.c13
              have d14 := DD.out.c14
              go_wp2_with fail
              refine (alloc_as C a _ S k 1 (fillP ⟨s, rows, ents⟩ k) ⟨s, rows, ents⟩ 0 0 3 0 0 (.iface 48 (.int .i64 3)) (fillP ⟨s, rows, ents⟩ k) _ I2.out RV.out K.out.1 K.out.2 (allocM_full _ k) (putM_full _ k) rfl rfl rfl).mono ?_
              rintro ev w2 ⟨S2, rfl, hI, hk2, hS⟩
              have T := Lib.hid (mut_step G2.out M2.out.1 M2.out.2 hk2 hS)
              have b1 := alloc_below0 w2 (.cells #[.int .i64 0, .int .i64 0] 34)
              have I3 := Lib.hid (C.step hI b1)
              have M3 := Lib.hid (low_move ⟨T.out.1, T.out.2.2⟩ b1)
              clear hI hk2 hS b1 I2 M2 RV DD
              clear d0 d1 d2 d3 d4 d5 d6 d7 d8 d9 d10 d11 d12 d13 d14
              have e3 : ((3 : Int) == 3) = true := rfl
              go_wp2_with fail
              refine (fIs_code 3 3 _).mono ?_
              rintro ev w3 ⟨rfl, hs⟩
              rw [e3]
              have I4 := Lib.hid (C.step I3.out hs)
              have M4 := Lib.hid (low_move M3.out hs)
              clear I3 M3
              clear hs
              go_wp2_with fail
              refine (C.left a S2 k 1 (fillP ⟨s, rows, ents⟩ k) _ I4.out).mono ?_
              rintro ev w4 ⟨rfl, hs⟩
              rw [leftM_full]
              have I5 := Lib.hid (C.step I4.out hs)
              have M5 := Lib.hid (low_move M4.out hs)
              clear I4 M4
              clear hs
              go_wp2_with fail
              refine (free_as C a S2 k 1 (fillP ⟨s, rows, ents⟩ k) (k : Int) 1 0 .nilIface (lastP ⟨s, rows, ents⟩ (k - 1)) _ I5.out (codeM_full N.out) (freeM_full N.out) rfl).mono ?_
              rintro ev w5 ⟨S5, rfl, hI, hk2, hS⟩
              have T5 := Lib.hid (mut_step T.out.2.1 M5.out.1 M5.out.2 hk2 hS)
              have I8 := Lib.hid hI
              have RV := Lib.hid (show RecV w5 (recVal s (.slice ra rows.length rc) (.slice ea ents.length ec)) ⟨s, rows, ents⟩ from ⟨_, _, rfl, HR.out.below (B0.out.trans (T5.out.1.mono (by rw [Z.out]; omega))), HE.out.below (B0.out.trans (T5.out.1.mono (by rw [Z.out]; omega)))⟩)
              have DD := Lib.hid (D0.out.low T5.out.1 (by rw [Z.out]; omega))
              clear hI hk2 hS I5 M5
              unfold recVal at RV
              have d0 := DD.out.c0
              have d1 := DD.out.c1
              have d2 := DD.out.c2
              have d3 := DD.out.c3
              have d4 := DD.out.c4
              have d5 := DD.out.c5
              have d6 := DD.out.c6
              have d7 := DD.out.c7
              have d8 := DD.out.c8
              have d9 := DD.out.c9
              have d10 := DD.out.c10
              have d11 := DD.out.c11
              have d12 := DD.out.c12
              have d13 := DD.out.c13
              have d14 := DD.out.c14
              go_wp2_with fail
              refine (alloc_as C a _ S5 k 1 (lastP ⟨s, rows, ents⟩ (k - 1)) ⟨s, rows, ents⟩ 0 0 5 0 0 (.iface 48 (.int .i64 5)) (lastP ⟨s, rows, ents⟩ (k - 1)) _ I8.out RV.out K.out.1 K.out.2 (allocM_worn N.out) (putM_worn N.out) rfl rfl rfl).mono ?_
              rintro ev w6 ⟨S6, rfl, hI, hk2, hS⟩
              have T6 := Lib.hid (mut_step T5.out.2.1 T5.out.1 T5.out.2.2 hk2 hS)
              have b1 := alloc_below0 w6 (.cells #[.int .i64 0, .int .i64 0] 34)
              have M9 := Lib.hid (low_move ⟨T6.out.1, T6.out.2.2⟩ b1)
              clear hI hk2 hS b1 I8 RV DD
              clear d0 d1 d2 d3 d4 d5 d6 d7 d8 d9 d10 d11 d12 d13 d14
              have e5 : ((5 : Int) == 5) = true := rfl
              go_wp2_with fail
              refine (fIs_code 5 5 _).mono ?_
              rintro ev w7 ⟨rfl, hs⟩
              rw [e5]
              have M10 := Lib.hid (low_move M9.out hs)
              clear M9
              clear hs
              go_wp2_with fail
              refine (awakeA C _).mono ?_
              rintro ev w8 ⟨rfl, hs⟩
              have M11 := Lib.hid (low_move M10.out hs)
              clear M10
              clear hs
              go_wp2
              go_ret
              exact ⟨rfl, B0.out.trans (M11.out.1.mono (by rw [Z.out]; omega))⟩
        · clear hr he b0 D
          go_enter Try.func5, Try.ntmps5
          go_wp2_with fail
          rw [← hW]
          refine (awakeA C _).mono ?_
          rintro ev w1 ⟨rfl, hs⟩
          have B1 := Lib.hid (B0.out.trans (hs.mono B0.out.size))
          clear hs hW
          go_wp2
          go_ret
          exact ⟨rfl, B1.out⟩
      · clear hr he b0 D
        go_enter Try.func5, Try.ntmps5
        go_wp2_with fail
        rw [← hW]
        refine (awakeA C _).mono ?_
        rintro ev w1 ⟨rfl, hs⟩
        have B1 := Lib.hid (B0.out.trans (hs.mono B0.out.size))
        clear hs hW
        go_wp2
        go_ret
        exact ⟨rfl, B1.out⟩
    · clear hr he b0 D
      go_enter Try.func5, Try.ntmps5
      go_wp2_with fail
      rw [← hW]
      refine (awakeA C _).mono ?_
      rintro ev w1 ⟨rfl, hs⟩
      have B1 := Lib.hid (B0.out.trans (hs.mono B0.out.size))
      clear hs hW
      go_wp2
      go_ret
      exact ⟨rfl, B1.out⟩
  · clear hr he b0 D
    go_enter Try.func5, Try.ntmps5
    go_wp2_with fail
    rw [← hW]
    refine (awakeA C _).mono ?_
    rintro ev w1 ⟨rfl, hs⟩
    have B1 := Lib.hid (B0.out.trans (hs.mono B0.out.size))
    clear hs hW
    go_wp2
    go_ret
    exact ⟨rfl, B1.out⟩
end Go.Proofs.Ytkokpbkpmhhemaa
