/- The walk of the law RowsTurns, out of package rows's contracts. -/
import Derived.Test.YtaaikmompiejdaaRwTurn
import Derived.Test.YtaaikmompiejdaaRwSB
namespace Go.Proofs.Ytaaikmompiejdaa
open Go.RowKit

set_option maxRecDepth 100000 in
set_option maxHeartbeats 4000000 in
theorem lawTurns (C : RwC) (v : Value) (rs : List Rw) (low high : ByteArray) (unb : Bool) (limit : Int) (w : World) (hv : RowsV w v rs) (hlo : low.size ≤ maxLen) (hhi : high.size ≤ maxLen) (hli : -9223372036854775808 ≤ limit ∧ limit ≤ 9223372036854775807) :
    Calls Try.prog 9 #[v, .agg #[.string low, .string high, .bool unb], .int .i64 limit] w fun ev w' => ev = .returned (.bool true) ∧ Below w.heap.size w w' := by
  have hnot : ∀ (x : Bool) (w : World), (Op.unary .not (.bool x)).run Try.prog w = .ok (.bool (!x)) w := fun _ _ => rfl
  have L : Aside (RwC ∧ low.size ≤ maxLen ∧ high.size ≤ maxLen ∧ (-9223372036854775808 ≤ limit ∧ limit ≤ 9223372036854775807)) := ⟨C, hlo, hhi, hli⟩
  have R0 := Lib.hid (hv.alloc (.cells #[.string low, .string high, .bool unb] 54))
  have S0 := Lib.hid (SB.new low high unb w 54)
  have B0 := Lib.hid (alloc_below0 w (.cells #[.string low, .string high, .bool unb] 54))
  unfold maxLen at hlo hhi
  clear C hv hli
  go_enter Try.func9, Try.ntmps9
  go_wp2_with fail
  refine (rfew_any v rs _ R0.out).mono ?_
  rintro ev w1 ⟨rfl, hs⟩
  have R1 := Lib.hid (R0.out.below hs)
  have S1 := Lib.hid (S0.out.step hs)
  have B1 := Lib.hid (B0.out.trans (hs.mono B0.out.size))
  clear R0 S0 B0
  clear hs
  cases hf : fewR rs with
  | false =>
    clear hf
    go_wp2_with fail
    refine (awakeR L.out.1 _).mono ?_
    rintro ev w2 ⟨rfl, hs⟩
    have R2 := Lib.hid (R1.out.below hs)
    have S2 := Lib.hid (S1.out.step hs)
    have B2 := Lib.hid (B1.out.trans (hs.mono B1.out.size))
    clear R1 S1 B1
    clear hs
    go_wp2
    go_ret
    exact ⟨rfl, B2.out⟩
  | true =>
    have K := Lib.hid (show rs.length ≤ 1000 by have := fewR_len hf; omega)
    clear hf
    have c0 := S1.out.c0
    have c1 := S1.out.c1
    by_cases h1 : low.size ≤ 100
    · by_cases h2 : high.size ≤ 100
      · have P0 := Lib.hid (S1.out.c0)
        have Q0 := Lib.hid (S1.out.c1)
        have T0 := Lib.hid (S1.out.c2)
        clear S1
        go_wp2_with fail
        have R2 := Lib.hid (R1.out.below (Below.refl _ _).drew)
        have B2 := Lib.hid (B1.out.trans ((Below.refl _ _).drew.mono B1.out.size))
        have P1 := Lib.hid (cell_step P0.out (Below.refl _ _).drew)
        have Q1 := Lib.hid (cell_step Q0.out (Below.refl _ _).drew)
        have T1 := Lib.hid (cell_step T0.out (Below.refl _ _).drew)
        clear R1 B1 P0 Q0 T0
        have zz0 := P1.out
        have zz1 := Q1.out
        have zz2 := T1.out
        go_region_held3 (fun w' => w'.cell? ⟨w.heap.size, 0, none⟩ = some (.string low) ∧ w'.cell? ⟨w.heap.size, 1, none⟩ = some (.string high) ∧ w'.cell? ⟨w.heap.size, 2, none⟩ = some (.bool unb))
          (first | exact ⟨by assumption, by assumption, by assumption⟩ | go_keep)
          (first
            | (go_at_call 32; (with_reducible refine (L.out.1.take v rs low high unb false _ _ R2.out K.out L.out.2.1 L.out.2.2.1 (by decide)).mono ?_); rintro e w2 ⟨x1, rfl, h3, hs⟩; have R3 := Lib.hid (R2.out.below hs); have B3 := Lib.hid (B2.out.trans (hs.mono B2.out.size)); have P2 := Lib.hid (cell_step P1.out hs); have Q2 := Lib.hid (cell_step Q1.out hs); have T2 := Lib.hid (cell_step T1.out hs); clear R2 B2 P1 Q1 T1; have X0 := Lib.hid (takeR_allV h3 (by decide)); have zz0_0 := P2.out; have zz1_0 := Q2.out; have zz2_0 := T2.out; clear hs h3)
            | (go_at_call 32; (with_reducible refine (L.out.1.take v rs low high unb true _ _ R3.out K.out L.out.2.1 L.out.2.2.1 (by decide)).mono ?_); rintro e w3 ⟨x2, rfl, h4, hs⟩; have R4 := Lib.hid (R3.out.below hs); have B4 := Lib.hid (B3.out.trans (hs.mono B3.out.size)); have P3 := Lib.hid (cell_step P2.out hs); have Q3 := Lib.hid (cell_step Q2.out hs); have T3 := Lib.hid (cell_step T2.out hs); have X1 := Lib.hid (X0.out.below hs); clear R3 B3 P2 Q2 T2 X0; have Y0 := Lib.hid (takeR_allV h4 (by decide)); have zz0_1 := P3.out; have zz1_1 := Q3.out; have zz2_1 := T3.out; clear hs h4))
        clear c0 c1
        go_wp2_with fail
        have R5 := Lib.hid (R4.out.below (Below.refl _ _).drew)
        have B5 := Lib.hid (B4.out.trans ((Below.refl _ _).drew.mono B4.out.size))
        have P4 := Lib.hid (cell_step P3.out (Below.refl _ _).drew)
        have Q4 := Lib.hid (cell_step Q3.out (Below.refl _ _).drew)
        have T4 := Lib.hid (cell_step T3.out (Below.refl _ _).drew)
        have X2 := Lib.hid (X1.out.below (Below.refl _ _).drew)
        have Y1 := Lib.hid (Y0.out.below (Below.refl _ _).drew)
        clear R4 B4 P3 Q3 T3 X1 Y0
        have zz0 := P4.out
        have zz1 := Q4.out
        have zz2 := T4.out
        go_region_held3 (fun w' => w'.cell? ⟨w.heap.size, 0, none⟩ = some (.string low) ∧ w'.cell? ⟨w.heap.size, 1, none⟩ = some (.string high) ∧ w'.cell? ⟨w.heap.size, 2, none⟩ = some (.bool unb))
          (first | exact ⟨by assumption, by assumption, by assumption⟩ | go_keep)
          (first
            | (go_at_call 32; (with_reducible refine (L.out.1.take v rs low high unb false limit _ R5.out K.out L.out.2.1 L.out.2.2.1 L.out.2.2.2).mono ?_); rintro e w4 ⟨x3, rfl, h3, hs⟩; have R6 := Lib.hid (R5.out.below hs); have B6 := Lib.hid (B5.out.trans (hs.mono B5.out.size)); have P5 := Lib.hid (cell_step P4.out hs); have Q5 := Lib.hid (cell_step Q4.out hs); have T5 := Lib.hid (cell_step T4.out hs); have X3 := Lib.hid (X2.out.below hs); have Y2 := Lib.hid (Y1.out.below hs); clear R5 B5 P4 Q4 T4 X2 Y1; have C0 := Lib.hid (h3); have zz0_0 := P5.out; have zz1_0 := Q5.out; have zz2_0 := T5.out; clear hs h3)
            | (go_at_call 32; (with_reducible refine (L.out.1.take v rs low high unb true limit _ R6.out K.out L.out.2.1 L.out.2.2.1 L.out.2.2.2).mono ?_); rintro e w5 ⟨x4, rfl, h4, hs⟩; have R7 := Lib.hid (R6.out.below hs); have B7 := Lib.hid (B6.out.trans (hs.mono B6.out.size)); have P6 := Lib.hid (cell_step P5.out hs); have Q6 := Lib.hid (cell_step Q5.out hs); have T6 := Lib.hid (cell_step T5.out hs); have X4 := Lib.hid (X3.out.below hs); have Y3 := Lib.hid (Y2.out.below hs); have C1 := Lib.hid (C0.out.below hs); clear R6 B6 P5 Q5 T5 X3 Y2 C0; have D0 := Lib.hid (h4); have zz0_1 := P6.out; have zz1_1 := Q6.out; have zz2_1 := T6.out; clear hs h4))
        obtain ⟨F, m, cl, a1, k1, a2, k2, a3, k3, a4, k4, rfl, rfl, rfl, rfl, hF, hcl, hm, hk1, hk2, hk3, hk4, hmin0, r1, r2, r3, r4⟩ := turns_open X4.out Y3.out C1.out D0.out K.out
        clear P6
        clear Q6
        clear T6
        clear X4
        clear Y3
        clear C1
        clear D0
        clear R7
        have X0 := Lib.hid (r1)
        have Y0 := Lib.hid (r2)
        have C0 := Lib.hid (r3)
        have D0 := Lib.hid (r4)
        have E := Lib.hid hF
        have RP := Lib.hid (show cl ≤ F.length ∧ cl ≤ F.reverse.length by rw [List.length_reverse, hF]; exact ⟨hcl, hcl⟩)
        have hmin : 1 ≤ limit → ∀ (w : World) (ts : Array TypeId) (t : TypeId), (Builtin.min_ ts t #[.int .i64 limit, .int .i64 (m : Int)]).run Try.prog w = .ok (.int .i64 (cl : Int)) w := fun h w ts t => by
          rw [run_min_int2, hmin0 h]
        have q1 : ((m : Int) != (m : Int)) = false := by simp
        have q2 : ((cl : Int) != (cl : Int)) = false := by simp
        have q3 : (cl : Int) ≤ (m : Int) := by omega
        have q4 : (m : Int) ≤ 1000 := by omega
        have q5 : (m : Int) ≤ (k1 : Int) := by omega
        have q6 : (m : Int) ≤ (k2 : Int) := by omega
        have q7 : (0 : Int) ≤ (cl : Int) := by omega
        have q8 : (cl : Int) ≤ (k1 : Int) := by omega
        have q9 : (cl : Int) ≤ (k2 : Int) := by omega
        unfold maxLen at hk3 hk4
        clear r1 r2 r3 r4 hmin0 hF h1 h2
        by_cases hlm : 1 ≤ limit
        · have hmn := hmin hlm
          clear hmin
          by_cases hm0 : m = 0
          · obtain rfl : cl = 0 := by omega
            subst hm0
            go_wp2
            refine wp_loop_rounds 1 ?_
            rw [rounds_succ]
            go_wp2_with fail
            refine (refSame_any _ _ _ _ _ C0.out (X0.out.takeV (k := 0) RP.out.1)).mono ?_
            rintro ev w6 ⟨rfl, hs⟩
            rw [sameR_self]
            have B8 := Lib.hid (B7.out.trans (hs.mono B7.out.size))
            have X1 := Lib.hid (X0.out.below hs)
            have Y1 := Lib.hid (Y0.out.below hs)
            have C1 := Lib.hid (C0.out.below hs)
            have D1 := Lib.hid (D0.out.below hs)
            clear B7 X0 Y0 C0 D0
            clear hs
            go_wp2_with fail
            refine (refSame_any _ _ _ _ _ D1.out (Y1.out.takeV (k := 0) RP.out.2)).mono ?_
            rintro ev w7 ⟨rfl, hs⟩
            rw [sameR_self]
            have B9 := Lib.hid (B8.out.trans (hs.mono B8.out.size))
            have X2 := Lib.hid (X1.out.below hs)
            have Y2 := Lib.hid (Y1.out.below hs)
            have C2 := Lib.hid (C1.out.below hs)
            have D2 := Lib.hid (D1.out.below hs)
            clear B8 X1 Y1 C1 D1
            clear hs
            go_wp2_with fail
            refine (awakeR L.out.1 _).mono ?_
            rintro ev w8 ⟨rfl, hs⟩
            have B10 := Lib.hid (B9.out.trans (hs.mono B9.out.size))
            have X3 := Lib.hid (X2.out.below hs)
            have Y3 := Lib.hid (Y2.out.below hs)
            have C3 := Lib.hid (C2.out.below hs)
            have D3 := Lib.hid (D2.out.below hs)
            clear B9 X2 Y2 C2 D2
            clear hs
            go_wp2
            go_ret
            exact ⟨rfl, B10.out⟩
          · obtain ⟨b1, o1, ha1⟩ := X0.out.addr (by rw [E.out]; exact hm0)
            obtain ⟨b2, o2, ha2⟩ := Y0.out.addr (by rw [List.length_reverse, E.out]; exact hm0)
            subst ha1 ha2
            go_wp2
            go_loopg [76] m (fun r i wr => ∃ k : Nat, k + r = m ∧ i = .int .i64 k ∧ Below w5.heap.size w5 wr)
            case atStart => exact ⟨0, by omega, rfl, Below.refl _ _⟩
            case round =>
              obtain ⟨k, hk, rfl, hB⟩ := hrel
              have A : Aside (Below w5.heap.size w5 wr ∧ k + gk = m) := ⟨hB, hk⟩
              clear hB
              by_cases hlt : k < m
              · obtain ⟨j, hj⟩ : ∃ j, m - 1 - k = j := ⟨_, rfl⟩
                have hjm : j < m := by omega
                have hjF : F.reverse.getD j r0 = F.getD k r0 := turn_back (by rw [E.out]; exact hlt) (by rw [E.out]; exact hj)
                have x0 := cell_step (X0.out.cellsAt k (by rw [E.out]; exact hlt)).1 A.out.1
                have x1 := cell_step (X0.out.cellsAt k (by rw [E.out]; exact hlt)).2 A.out.1
                have y0 := cell_step (Y0.out.cellsAt j (by rw [List.length_reverse, E.out]; exact hjm)).1 A.out.1
                have y1 := cell_step (Y0.out.cellsAt j (by rw [List.length_reverse, E.out]; exact hjm)).2 A.out.1
                rw [hjF] at y0 y1
                have j1 : (m : Int) - 1 - (k : Int) = (j : Int) := by omega
                have j2 : (0 : Int) ≤ (j : Int) := by omega
                have j3 : (j : Int) < (m : Int) := by omega
                have j4 : (0 : Int) ≤ (k : Int) := by omega
                have j5 : (k : Int) < (m : Int) := by omega
                have j6 : IntKind.i64.wrap ((m : Int) - 1) = (m : Int) - 1 := Go.IntWalk.i64_in _ (by omega)
                have j7 : IntKind.i64.wrap (j : Int) = (j : Int) := Go.IntWalk.i64_in _ (by omega)
                generalize (F.getD k r0).1 = p at *
                generalize (F.getD k r0).2 = q at *
                have e1 : (p.toList == p.toList) = true := by simp
                have e2 : (q.toList == q.toList) = true := by simp
                clear hjF hj hm0
                go_wp2
                go_quiet (fail)
                go_wp2
                go_roundg (m - (k + 1))
                case measure => have := A.out.2; omega
                case rel => exact ⟨k + 1, by omega, by go_num, below_drewN A.out.1 _⟩
              · have hkm : k = m := by omega
                have B8 := Lib.hid (B7.out.trans (A.out.1.mono B7.out.size))
                have X1 := Lib.hid (X0.out.below A.out.1)
                have Y1 := Lib.hid (Y0.out.below A.out.1)
                have C1 := Lib.hid (C0.out.below A.out.1)
                have D1 := Lib.hid (D0.out.below A.out.1)
                clear B7 X0 Y0 C0 D0
                go_wp2_with fail
                refine (refSame_any _ _ _ _ _ C1.out (X1.out.takeV (k := cl) RP.out.1)).mono ?_
                rintro ev w6 ⟨rfl, hs⟩
                rw [sameR_self]
                have B9 := Lib.hid (B8.out.trans (hs.mono B8.out.size))
                have X2 := Lib.hid (X1.out.below hs)
                have Y2 := Lib.hid (Y1.out.below hs)
                have C2 := Lib.hid (C1.out.below hs)
                have D2 := Lib.hid (D1.out.below hs)
                clear B8 X1 Y1 C1 D1
                clear hs
                go_wp2_with fail
                refine (refSame_any _ _ _ _ _ D2.out (Y2.out.takeV (k := cl) RP.out.2)).mono ?_
                rintro ev w7 ⟨rfl, hs⟩
                rw [sameR_self]
                have B10 := Lib.hid (B9.out.trans (hs.mono B9.out.size))
                have X3 := Lib.hid (X2.out.below hs)
                have Y3 := Lib.hid (Y2.out.below hs)
                have C3 := Lib.hid (C2.out.below hs)
                have D3 := Lib.hid (D2.out.below hs)
                clear B9 X2 Y2 C2 D2
                clear hs
                go_wp2_with fail
                refine (awakeR L.out.1 _).mono ?_
                rintro ev w8 ⟨rfl, hs⟩
                have B11 := Lib.hid (B10.out.trans (hs.mono B10.out.size))
                have X4 := Lib.hid (X3.out.below hs)
                have Y4 := Lib.hid (Y3.out.below hs)
                have C4 := Lib.hid (C3.out.below hs)
                have D4 := Lib.hid (D3.out.below hs)
                clear B10 X3 Y3 C3 D3
                clear hs
                go_wp2
                go_ret
                exact ⟨rfl, B11.out⟩
        · clear hmin
          by_cases hm0 : m = 0
          · obtain rfl : cl = 0 := by omega
            subst hm0
            go_wp2
            refine wp_loop_rounds 1 ?_
            rw [rounds_succ]
            go_wp2_with fail
            refine (refSame_any _ _ _ _ _ C0.out (X0.out.takeV (k := 0) RP.out.1)).mono ?_
            rintro ev w6 ⟨rfl, hs⟩
            rw [sameR_self]
            have B8 := Lib.hid (B7.out.trans (hs.mono B7.out.size))
            have X1 := Lib.hid (X0.out.below hs)
            have Y1 := Lib.hid (Y0.out.below hs)
            have C1 := Lib.hid (C0.out.below hs)
            have D1 := Lib.hid (D0.out.below hs)
            clear B7 X0 Y0 C0 D0
            clear hs
            go_wp2_with fail
            refine (refSame_any _ _ _ _ _ D1.out (Y1.out.takeV (k := 0) RP.out.2)).mono ?_
            rintro ev w7 ⟨rfl, hs⟩
            rw [sameR_self]
            have B9 := Lib.hid (B8.out.trans (hs.mono B8.out.size))
            have X2 := Lib.hid (X1.out.below hs)
            have Y2 := Lib.hid (Y1.out.below hs)
            have C2 := Lib.hid (C1.out.below hs)
            have D2 := Lib.hid (D1.out.below hs)
            clear B8 X1 Y1 C1 D1
            clear hs
            go_wp2_with fail
            refine (awakeR L.out.1 _).mono ?_
            rintro ev w8 ⟨rfl, hs⟩
            have B10 := Lib.hid (B9.out.trans (hs.mono B9.out.size))
            have X3 := Lib.hid (X2.out.below hs)
            have Y3 := Lib.hid (Y2.out.below hs)
            have C3 := Lib.hid (C2.out.below hs)
            have D3 := Lib.hid (D2.out.below hs)
            clear B9 X2 Y2 C2 D2
            clear hs
            go_wp2
            go_ret
            exact ⟨rfl, B10.out⟩
          · obtain ⟨b1, o1, ha1⟩ := X0.out.addr (by rw [E.out]; exact hm0)
            obtain ⟨b2, o2, ha2⟩ := Y0.out.addr (by rw [List.length_reverse, E.out]; exact hm0)
            subst ha1 ha2
            go_wp2
            go_loopg [76] m (fun r i wr => ∃ k : Nat, k + r = m ∧ i = .int .i64 k ∧ Below w5.heap.size w5 wr)
            case atStart => exact ⟨0, by omega, rfl, Below.refl _ _⟩
            case round =>
              obtain ⟨k, hk, rfl, hB⟩ := hrel
              have A : Aside (Below w5.heap.size w5 wr ∧ k + gk = m) := ⟨hB, hk⟩
              clear hB
              by_cases hlt : k < m
              · obtain ⟨j, hj⟩ : ∃ j, m - 1 - k = j := ⟨_, rfl⟩
                have hjm : j < m := by omega
                have hjF : F.reverse.getD j r0 = F.getD k r0 := turn_back (by rw [E.out]; exact hlt) (by rw [E.out]; exact hj)
                have x0 := cell_step (X0.out.cellsAt k (by rw [E.out]; exact hlt)).1 A.out.1
                have x1 := cell_step (X0.out.cellsAt k (by rw [E.out]; exact hlt)).2 A.out.1
                have y0 := cell_step (Y0.out.cellsAt j (by rw [List.length_reverse, E.out]; exact hjm)).1 A.out.1
                have y1 := cell_step (Y0.out.cellsAt j (by rw [List.length_reverse, E.out]; exact hjm)).2 A.out.1
                rw [hjF] at y0 y1
                have j1 : (m : Int) - 1 - (k : Int) = (j : Int) := by omega
                have j2 : (0 : Int) ≤ (j : Int) := by omega
                have j3 : (j : Int) < (m : Int) := by omega
                have j4 : (0 : Int) ≤ (k : Int) := by omega
                have j5 : (k : Int) < (m : Int) := by omega
                have j6 : IntKind.i64.wrap ((m : Int) - 1) = (m : Int) - 1 := Go.IntWalk.i64_in _ (by omega)
                have j7 : IntKind.i64.wrap (j : Int) = (j : Int) := Go.IntWalk.i64_in _ (by omega)
                generalize (F.getD k r0).1 = p at *
                generalize (F.getD k r0).2 = q at *
                have e1 : (p.toList == p.toList) = true := by simp
                have e2 : (q.toList == q.toList) = true := by simp
                clear hjF hj hm0
                go_wp2
                go_quiet (fail)
                go_wp2
                go_roundg (m - (k + 1))
                case measure => have := A.out.2; omega
                case rel => exact ⟨k + 1, by omega, by go_num, below_drewN A.out.1 _⟩
              · have hkm : k = m := by omega
                have B8 := Lib.hid (B7.out.trans (A.out.1.mono B7.out.size))
                have X1 := Lib.hid (X0.out.below A.out.1)
                have Y1 := Lib.hid (Y0.out.below A.out.1)
                have C1 := Lib.hid (C0.out.below A.out.1)
                have D1 := Lib.hid (D0.out.below A.out.1)
                clear B7 X0 Y0 C0 D0
                go_wp2_with fail
                refine (refSame_any _ _ _ _ _ C1.out (X1.out.takeV (k := cl) RP.out.1)).mono ?_
                rintro ev w6 ⟨rfl, hs⟩
                rw [sameR_self]
                have B9 := Lib.hid (B8.out.trans (hs.mono B8.out.size))
                have X2 := Lib.hid (X1.out.below hs)
                have Y2 := Lib.hid (Y1.out.below hs)
                have C2 := Lib.hid (C1.out.below hs)
                have D2 := Lib.hid (D1.out.below hs)
                clear B8 X1 Y1 C1 D1
                clear hs
                go_wp2_with fail
                refine (refSame_any _ _ _ _ _ D2.out (Y2.out.takeV (k := cl) RP.out.2)).mono ?_
                rintro ev w7 ⟨rfl, hs⟩
                rw [sameR_self]
                have B10 := Lib.hid (B9.out.trans (hs.mono B9.out.size))
                have X3 := Lib.hid (X2.out.below hs)
                have Y3 := Lib.hid (Y2.out.below hs)
                have C3 := Lib.hid (C2.out.below hs)
                have D3 := Lib.hid (D2.out.below hs)
                clear B9 X2 Y2 C2 D2
                clear hs
                go_wp2_with fail
                refine (awakeR L.out.1 _).mono ?_
                rintro ev w8 ⟨rfl, hs⟩
                have B11 := Lib.hid (B10.out.trans (hs.mono B10.out.size))
                have X4 := Lib.hid (X3.out.below hs)
                have Y4 := Lib.hid (Y3.out.below hs)
                have C4 := Lib.hid (C3.out.below hs)
                have D4 := Lib.hid (D3.out.below hs)
                clear B10 X3 Y3 C3 D3
                clear hs
                go_wp2
                go_ret
                exact ⟨rfl, B11.out⟩
      · go_wp2_with fail
        refine (awakeR L.out.1 _).mono ?_
        rintro ev w2 ⟨rfl, hs⟩
        have R2 := Lib.hid (R1.out.below hs)
        have S2 := Lib.hid (S1.out.step hs)
        have B2 := Lib.hid (B1.out.trans (hs.mono B1.out.size))
        clear R1 S1 B1
        clear hs
        go_wp2
        go_ret
        exact ⟨rfl, B2.out⟩
    · go_wp2_with fail
      refine (awakeR L.out.1 _).mono ?_
      rintro ev w2 ⟨rfl, hs⟩
      have R2 := Lib.hid (R1.out.below hs)
      have S2 := Lib.hid (S1.out.step hs)
      have B2 := Lib.hid (B1.out.trans (hs.mono B1.out.size))
      clear R1 S1 B1
      clear hs
      go_wp2
      go_ret
      exact ⟨rfl, B2.out⟩
end Go.Proofs.Ytaaikmompiejdaa
