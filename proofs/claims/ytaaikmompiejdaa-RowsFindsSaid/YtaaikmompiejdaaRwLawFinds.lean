/- The walk of the law RowsFinds, out of package rows's contracts. -/
import Derived.Test.YtaaikmompiejdaaRwMod
namespace Go.Proofs.Ytaaikmompiejdaa
open Go.RowKit

set_option maxRecDepth 100000 in
set_option maxHeartbeats 4000000 in
theorem lawFinds (C : RwC) (v : Value) (rs : List Rw) (key : ByteArray) (w : World) (hv : RowsV w v rs) (hk : key.size ≤ maxLen) :
    Calls Try.prog 3 #[v, .string key] w fun ev w' => ev = .returned (.bool true) ∧ Below w.heap.size w w' := by
  have hnot : ∀ (x : Bool) (w : World), (Op.unary .not (.bool x)).run Try.prog w = .ok (.bool (!x)) w := fun _ _ => rfl
  obtain ⟨a0, n0, rfl, -, -⟩ := hv.lenform
  have L : Aside (RwC ∧ key.size ≤ maxLen) := ⟨C, hk⟩
  have RW := Lib.hid hv
  have R0 := Lib.hid (hv)
  have B0 := Lib.hid (Below.refl w.heap.size w)
  unfold maxLen at hk
  clear C hv
  go_enter Try.func3, Try.ntmps3
  go_wp2_with fail
  refine (rfew_any (.slice a0 rs.length n0) rs _ R0.out).mono ?_
  rintro ev w1 ⟨rfl, hs⟩
  have R1 := Lib.hid (R0.out.below hs)
  have B1 := Lib.hid (B0.out.trans (hs.mono B0.out.size))
  clear R0 B0
  clear hs
  cases hf : fewR rs with
  | false =>
    clear hf
    go_wp2_with fail
    refine (awakeR L.out.1 _).mono ?_
    rintro ev w2 ⟨rfl, hs⟩
    have R2 := Lib.hid (R1.out.below hs)
    have B2 := Lib.hid (B1.out.trans (hs.mono B1.out.size))
    clear R1 B1
    clear hs
    go_wp2
    go_ret
    exact ⟨rfl, B2.out⟩
  | true =>
    have K := Lib.hid (show rs.length ≤ 1000 by have := fewR_len hf; omega)
    have FS := Lib.hid (show ∀ r ∈ rs, r.1.size ≤ 2000 ∧ r.2.size ≤ 2000 from fewR_size (by unfold fewR at hf; simp at hf; exact hf.2))
    clear hf
    by_cases hk1 : key.size ≤ 100
    · go_wp2_with fail
      refine (L.out.1.find (.slice a0 rs.length n0) rs key _ R1.out K.out L.out.2).mono ?_
      rintro ev w2 ⟨rfl, hs⟩
      have R2 := Lib.hid (R1.out.below hs)
      have B2 := Lib.hid (B1.out.trans (hs.mono B1.out.size))
      clear R1 B1
      clear hs
      go_wp2_with fail
      refine (refFind_any (.slice a0 rs.length n0) rs key _ R2.out L.out.2).mono ?_
      rintro ev w3 ⟨rfl, hs⟩
      have R3 := Lib.hid (R2.out.below hs)
      have B3 := Lib.hid (B2.out.trans (hs.mono B2.out.size))
      clear R2 B2
      clear hs
      obtain ⟨fn, hfn⟩ : ∃ fn, (fnd rs key).1 = fn := ⟨_, rfl⟩
      obtain ⟨ft, hft⟩ : ∃ ft, (fnd rs key).2 = ft := ⟨_, rfl⟩
      rw [hfn, hft]
      clear hfn hft
      have q1 : ((fn : Int) == (fn : Int)) = true := by simp
      have q2 : (fn == fn) = true := by simp
      have q3 : (ft == ft) = true := by simp
      go_wp2_with fail
      refine (L.out.1.copy (.slice a0 rs.length n0) rs _ R3.out K.out).mono ?_
      rintro ev w4 ⟨c, rfl, hc, hs⟩
      have hgn := Lib.hid (show w.heap.size ≤ w3.heap.size from B3.out.size)
      have R4 := Lib.hid (R3.out.below hs)
      have B4 := Lib.hid (B3.out.trans (hs.mono B3.out.size))
      clear R3 B3
      have X0 := Lib.hid (hc.1)
      have FX := Lib.hid hc.2
      clear hs hc
      by_cases h0 : rs = []
      · clear FX
        subst h0
        simp only [List.length_nil]
        go_wp2_with fail
        refine (refSame_any c (.slice a0 0 n0) _ [] _ X0.out R4.out).mono ?_
        rintro ev w5 ⟨rfl, hs⟩
        rw [sameR_self]
        have R5 := Lib.hid (R4.out.below hs)
        have B5 := Lib.hid (B4.out.trans (hs.mono B4.out.size))
        have X1 := Lib.hid (X0.out.below hs)
        clear R4 B4 X0
        clear hs
        obtain ⟨ca, cc, hcv, -, -⟩ := X1.out.lenform
        subst hcv
        simp only [List.length_nil]
        go_wp2
        refine wp_loop_rounds 1 ?_
        rw [rounds_succ]
        obtain ⟨rb, hrb⟩ : ∃ rb, rightB [] = rb := ⟨_, rfl⟩
        have RB := Lib.hid hrb
        clear hrb
        have q4 : (rb == rb) = true := by simp
        go_wp2_with fail
        refine (L.out.1.right (.slice a0 0 n0) [] _ R5.out K.out).mono ?_
        rintro ev w6 ⟨rfl, hs⟩
        rw [RB.out]
        have R6 := Lib.hid (R5.out.below hs)
        have B6 := Lib.hid (B5.out.trans (hs.mono B5.out.size))
        have X2 := Lib.hid (X1.out.below hs)
        clear R5 B5 X1
        clear hs
        go_wp2_with fail
        refine (refRowsRight_any (.slice a0 0 n0) [] _ R6.out).mono ?_
        rintro ev w7 ⟨rfl, hs⟩
        rw [RB.out]
        have R7 := Lib.hid (R6.out.below hs)
        have B7 := Lib.hid (B6.out.trans (hs.mono B6.out.size))
        have X3 := Lib.hid (X2.out.below hs)
        clear R6 B6 X2
        clear hs
        go_wp2_with fail
        refine (own_any (.slice a0 0 n0) [] _ R7.out K.out).mono ?_
        rintro ev w8 ⟨u, rfl, ho, hs⟩
        have R8 := Lib.hid (R7.out.below hs)
        have B8 := Lib.hid (B7.out.trans (hs.mono B7.out.size))
        have X4 := Lib.hid (X3.out.below hs)
        clear R7 B7 X3
        have U0 := Lib.hid (ho.rows R8.out.small)
        clear hs ho
        go_wp2_with fail
        refine (L.out.1.same (.slice a0 0 n0) u [] [] _ R8.out U0.out K.out K.out).mono ?_
        rintro ev w9 ⟨rfl, hs⟩
        rw [sameR_self]
        have R9 := Lib.hid (R8.out.below hs)
        have B9 := Lib.hid (B8.out.trans (hs.mono B8.out.size))
        have X5 := Lib.hid (X4.out.below hs)
        have U1 := Lib.hid (U0.out.below hs)
        clear R8 B8 X4 U0
        clear hs
        go_wp2_with fail
        refine (awakeR L.out.1 _).mono ?_
        rintro ev w10 ⟨rfl, hs⟩
        have R10 := Lib.hid (R9.out.below hs)
        have B10 := Lib.hid (B9.out.trans (hs.mono B9.out.size))
        have X6 := Lib.hid (X5.out.below hs)
        have U2 := Lib.hid (U1.out.below hs)
        clear R9 B9 X5 U1
        clear hs
        go_wp2
        go_ret
        exact ⟨rfl, B10.out⟩
      · obtain ⟨g, off, cap, hcv, hg0, hfz⟩ := FX.out h0
        subst hcv
        obtain ⟨hcx, hlc, hcm⟩ := CX.start X0.out hfz
        have hg : w.heap.size ≤ g := by have := hgn.out; omega
        unfold maxLen at hcm
        clear hfz hg0 FX
        have Y0 := Lib.hid (hcx)
        clear hcx
        go_wp2_with fail
        refine (refSame_any (.slice (some ⟨g, off, none⟩) rs.length cap) (.slice a0 rs.length n0) _ rs _ X0.out R4.out).mono ?_
        rintro ev w5 ⟨rfl, hs⟩
        rw [sameR_self]
        have R5 := Lib.hid (R4.out.below hs)
        have B5 := Lib.hid (B4.out.trans (hs.mono B4.out.size))
        have X1 := Lib.hid (X0.out.below hs)
        have Y1 := Lib.hid (Y0.out.below (Y0.out.lt h0) hs)
        clear R4 B4 X0 Y0
        clear hs
        clear X1
        go_wp2
        go_loopg [40] rs.length (fun m i wr => ∃ k : Nat, k + m = rs.length ∧ i = .int .i64 k ∧ CX g off rs k wr ∧ Below w.heap.size w wr)
        case atStart => exact ⟨0, by omega, rfl, Y1.out, B5.out⟩
        case round =>
          obtain ⟨k, hk, rfl, hC, hB⟩ := hrel
          have A : Aside (CX g off rs k wr ∧ Below w.heap.size w wr ∧ k + gk = rs.length) := ⟨hC, hB, hk⟩
          clear hC hB
          by_cases hlt : k < rs.length
          · have hc0 := A.out.1.at hlt
            have hf0 := A.out.1.free (k * 2) (by omega)
            have S1 := Lib.hid (A.out.1.set hlt)
            have S2 := Lib.hid (A.out.2.1.setCell (p := ⟨g, off + k * 2, none⟩) hg (.string ((rs.getD k r0).1 ++ ⟨#[120]⟩)))
            have hxs : (rs.getD k r0).1.size ≤ 2000 := (FS.out _ (getD_mem hlt)).1
            generalize (rs.getD k r0).1 = x at *
            go_wp2
            go_roundg (rs.length - (k + 1))
            case measure => have := A.out.2.2; omega
            case rel => exact ⟨k + 1, by omega, by go_num, S1.out, S2.out⟩
          · have hkl : k = rs.length := by omega
            have T1 := Lib.hid (show RowsV wr (.slice (some ⟨g, off, none⟩) rs.length cap) (modX rs rs.length) from by rw [← hkl]; have := A.out.1.rows (modX_small FS.out k) hlc (by unfold maxLen; omega); rw [← hkl] at this; exact this)
            have T2 := Lib.hid (RW.out.below A.out.2.1)
            have T3 := Lib.hid A.out.2.1
            have ML := Lib.hid (show (modX rs rs.length).length ≤ 1000 by rw [modX_len]; exact K.out)
            have q5 : ((rs.length : Int) == 0) = false := by have := List.length_pos_iff.2 h0; simp; omega
            have q6 : (rs.length == 0) = false := by have := List.length_pos_iff.2 h0; simp; omega
            clear hkl
            have R0 := Lib.hid (T2.out)
            have B0 := Lib.hid (T3.out)
            have X0 := Lib.hid (T1.out)
            clear T1 T2 T3
            obtain ⟨rb, hrb⟩ : ∃ rb, rightB rs = rb := ⟨_, rfl⟩
            have RB := Lib.hid hrb
            clear hrb
            have q4 : (rb == rb) = true := by simp
            go_wp2_with fail
            refine (L.out.1.right (.slice a0 rs.length n0) rs _ R0.out K.out).mono ?_
            rintro ev w6 ⟨rfl, hs⟩
            rw [RB.out]
            have R1 := Lib.hid (R0.out.below hs)
            have B1 := Lib.hid (B0.out.trans (hs.mono B0.out.size))
            have X1 := Lib.hid (X0.out.below hs)
            clear R0 B0 X0
            clear hs
            go_wp2_with fail
            refine (refRowsRight_any (.slice a0 rs.length n0) rs _ R1.out).mono ?_
            rintro ev w7 ⟨rfl, hs⟩
            rw [RB.out]
            have R2 := Lib.hid (R1.out.below hs)
            have B2 := Lib.hid (B1.out.trans (hs.mono B1.out.size))
            have X2 := Lib.hid (X1.out.below hs)
            clear R1 B1 X1
            clear hs
            go_wp2_with fail
            refine (own_any (.slice a0 rs.length n0) rs _ R2.out K.out).mono ?_
            rintro ev w8 ⟨u, rfl, ho, hs⟩
            have R3 := Lib.hid (R2.out.below hs)
            have B3 := Lib.hid (B2.out.trans (hs.mono B2.out.size))
            have X3 := Lib.hid (X2.out.below hs)
            clear R2 B2 X2
            have U0 := Lib.hid (ho.rows R3.out.small)
            clear hs ho
            go_wp2_with fail
            refine (L.out.1.same (.slice a0 rs.length n0) u rs rs _ R3.out U0.out K.out K.out).mono ?_
            rintro ev w9 ⟨rfl, hs⟩
            rw [sameR_self]
            have R4 := Lib.hid (R3.out.below hs)
            have B4 := Lib.hid (B3.out.trans (hs.mono B3.out.size))
            have X4 := Lib.hid (X3.out.below hs)
            have U1 := Lib.hid (U0.out.below hs)
            clear R3 B3 X3 U0
            clear hs
            go_wp2_with fail
            refine (L.out.1.same (.slice a0 rs.length n0) (.slice (some ⟨g, off, none⟩) rs.length cap) rs _ _ R4.out X4.out K.out ML.out).mono ?_
            rintro ev w10 ⟨rfl, hs⟩
            rw [modX_ne h0]
            have R5 := Lib.hid (R4.out.below hs)
            have B5 := Lib.hid (B4.out.trans (hs.mono B4.out.size))
            have X5 := Lib.hid (X4.out.below hs)
            have U2 := Lib.hid (U1.out.below hs)
            clear R4 B4 X4 U1
            clear hs
            go_wp2_with fail
            refine (awakeR L.out.1 _).mono ?_
            rintro ev w11 ⟨rfl, hs⟩
            have R6 := Lib.hid (R5.out.below hs)
            have B6 := Lib.hid (B5.out.trans (hs.mono B5.out.size))
            have X6 := Lib.hid (X5.out.below hs)
            have U3 := Lib.hid (U2.out.below hs)
            clear R5 B5 X5 U2
            clear hs
            go_wp2
            go_ret
            exact ⟨rfl, B6.out⟩
    · go_wp2_with fail
      refine (awakeR L.out.1 _).mono ?_
      rintro ev w2 ⟨rfl, hs⟩
      have R2 := Lib.hid (R1.out.below hs)
      have B2 := Lib.hid (B1.out.trans (hs.mono B1.out.size))
      clear R1 B1
      clear hs
      go_wp2
      go_ret
      exact ⟨rfl, B2.out⟩
end Go.Proofs.Ytaaikmompiejdaa
