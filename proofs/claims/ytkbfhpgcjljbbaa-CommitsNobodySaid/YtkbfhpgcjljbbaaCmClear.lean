/- The walk of the law CommitsClear. -/
import Derived.Test.YtkbfhpgcjljbbaaCmFew
import Derived.Test.YtkbfhpgcjljbbaaCmGiven
import Derived.Test.YtkbfhpgcjljbbaaCmAwake
namespace Go.Proofs.Ytkbfhpgcjljbbaa
set_option linter.unusedVariables false
set_option linter.unusedSimpArgs false
open Go.RowKit

theorem strInfo : (Try.prog.info? 9).map (fun i => (i.zero, i.size, i.bytes)) = some (some (.string ⟨#[]⟩), 1, 16) := by kernel_rfl
theorem lStr_known : lStr.known 16 := known_of strInfo rfl rfl
theorem map_take1 {xs : List Wr} {k : Nat} {x : Wr} (h : xs[k]? = some x) : (xs.take (k + 1)).map (·.1) = (xs.take k).map (·.1) ++ [x.1] := by rw [wtake_at1 h]; simp
theorem keys_small {xs : List Wr} (h : SmallW xs) : ∀ k ∈ xs.map (·.1), k.size ≤ maxLen := fun k hk => by
  obtain ⟨x, hx, rfl⟩ := List.mem_map.1 hk
  exact (h x hx).1
theorem one_small {l h : ByteArray} {u : Bool} (hl : l.size ≤ maxLen) (hh : h.size ≤ maxLen) : ∀ s ∈ [((l, h, u) : Sp)], s.1.size ≤ maxLen ∧ s.2.1.size ≤ maxLen := fun s hs => by
  rw [List.mem_singleton.1 hs]; exact ⟨hl, hh⟩
theorem no_keys : ∀ k ∈ ([] : List ByteArray), k.size ≤ maxLen := fun k hk => by cases hk
theorem no_spans : ∀ s ∈ ([] : List Sp), s.1.size ≤ maxLen ∧ s.2.1.size ≤ maxLen := fun k hk => by cases hk
/-- one span written out -/
theorem lit_sp (w : World) (g : Nat) (hg : w.heap.size = g) (l h : ByteArray) (u : Bool) : SV lSp (w.alloc (.cells #[.string l, .string h, .bool u] 53)) (.slice (some ⟨g, 0, none⟩) 1 1) [(l, h, u)] :=
  (OwnS.lit lSp g w g hg [(l, h, u)] (Nat.le_refl _) (by simp [maxLen])).sv
set_option maxRecDepth 100000 in
set_option maxHeartbeats 4000000 in
theorem lawClear (C : CmC) (v : Value) (xs : List Wr) (l h : ByteArray) (u : Bool) (w : World) (hv : WrV lDw w v xs) (hl : l.size ≤ maxLen) (hh : h.size ≤ maxLen) :
    Calls Try.prog 8 #[v, .agg #[.string l, .string h, .bool u]] w fun ev w' => ev = .returned (.bool true) ∧ Below w.heap.size w w' := by
  obtain ⟨a, cap, rfl, hlc, hcm⟩ := hv.1.lenform
  obtain ⟨n, hn⟩ : ∃ n, xs.length = n := ⟨_, rfl⟩
  rw [hn] at hv hlc ⊢
  have b0 := alloc_below0 w (.cells #[.string l, .string h, .bool u] 53)
  have V0 := Lib.hid (hv.below b0)
  have S0 := Lib.hid (SB.new l h u w 53)
  have B0 := Lib.hid b0
  have LN := Lib.hid hn
  have HL := Lib.hid (show l.size ≤ maxLen ∧ h.size ≤ maxLen from ⟨hl, hh⟩)
  unfold maxLen at hl hh
  clear hv hn b0
  go_enter Try.func8, Try.ntmps8
  go_wp2_with fail
  refine (wfew_any _ xs _ V0.out).mono ?_
  rintro ev w1 ⟨rfl, hs⟩
  have V1 := Lib.hid (V0.out.below hs)
  have S1 := Lib.hid (S0.out.step hs)
  have B1 := Lib.hid (B0.out.trans (hs.mono B0.out.size))
  clear V0 S0 B0 hs
  cases hf : fewW xs with
  | false =>
    clear hf
    go_wp2_with fail
    refine (awake16 C.T _).mono ?_
    rintro ev w2 ⟨rfl, hs⟩
    have B2 := Lib.hid (B1.out.trans (hs.mono B1.out.size))
    clear hs
    go_wp2
    go_ret
    exact ⟨rfl, B2.out⟩
  | true =>
    have K := Lib.hid (show n ≤ 40 by rw [← LN.out]; exact fewW_len hf)
    clear hf
    have c0 := S1.out.c0
    have c1 := S1.out.c1
    by_cases h1 : l.size ≤ 100
    · by_cases h2 : h.size ≤ 100
      · go_wp2
        go_loopg [5, 28] n (fun c s i wr => ∃ k : Nat, k + c = n ∧ i = .int .i64 k ∧ OwnS lStr w1.heap.size wr s ((xs.take k).map (·.1)) ∧ Below w1.heap.size w1 wr)
        case atStart => exact ⟨0, by omega, rfl, OwnS.nil _ _ _, Below.refl _ _⟩
        case round =>
          obtain ⟨k, hk, rfl, hO, hB⟩ := hrel
          have A := Lib.hid (show Below w1.heap.size w1 wr ∧ k + gk = n from ⟨hB, hk⟩)
          have O := Lib.hid hO
          clear hB hO c0 c1
          by_cases hlt : k < n
          · obtain ⟨x, hx⟩ : ∃ x, xs[k]? = some x := ⟨_, List.getElem?_eq_getElem (by rw [LN.out]; exact hlt)⟩
            obtain ⟨b, off, ha⟩ := V1.out.1.addr (by rw [LN.out]; omega)
            subst ha
            obtain ⟨x0, x1, x2⟩ := (V1.out.below A.out.1).cells hx
            have T := Lib.hid (map_take1 hx)
            have j3 : (0 : Int) ≤ (k : Int) := by omega
            have j4 : (k : Int) < (n : Int) := by omega
            have j5 : n ≤ 40 := K.out
            have ba := alloc_below0 wr (.cells #[.string x.1, .string x.2.1, .bool x.2.2] 54)
            have bb := alloc_below0 (wr.alloc (.cells #[.string x.1, .string x.2.1, .bool x.2.2] 54)) (.cells #[.string x.1] 9)
            have BC := Lib.hid (A.out.1.trans ((ba.trans (bb.mono ba.size)).mono A.out.1.size))
            have O2 := Lib.hid ((O.out.below ba).below bb)
            have SR := Lib.hid (OwnS.lit lStr w1.heap.size (wr.alloc (.cells #[.string x.1, .string x.2.1, .bool x.2.2] 54)) (wr.heap.size + 1) (by simp) [x.1] (by have := A.out.1.size; omega) (by simp [maxLen])).sv
            have LT := Lib.hid (show ((xs.take k).map (·.1)).length + 1 ≤ 100000 by rw [List.length_map, List.length_take]; have := K.out; omega)
            clear hx ba bb
            go_wp2_with (at_builtin; go_must (refine wpList_appS lStr 50 Try.underlying50 lStr_known (by decide) (by decide) rfl (.tmp 32) (.tmp 35) rfl w1.heap.size rfl rfl O2.out SR LT.out BC.out.size ?_; intro v2 w2 ho2 hg2))
            have F := Lib.hid (show OwnS lStr w1.heap.size w2 v2 ((xs.take (k + 1)).map (·.1)) ∧ Below w1.heap.size w1 w2 from ⟨by rw [T.out]; exact ho2, BC.out.trans ((Kept.of_grown hg2).below (fun j hj => (O2.out.bounds j hj.symm).1) BC.out.size)⟩)
            clear ho2 hg2
            go_wp2
            go_roundg (n - (k + 1))
            case measure => have := A.out.2; omega
            case rel => exact ⟨k + 1, by omega, by go_num, F.out.1, F.out.2⟩
          · obtain rfl : k = n := by have := A.out.2; omega
            have KS := Lib.hid (show OwnS lStr w1.heap.size wr _ (xs.map (·.1)) by have h := O.out; rwa [List.take_of_length_le (Nat.le_of_eq LN.out)] at h)
            have Vr := Lib.hid (V1.out.below A.out.1)
            have Sr := Lib.hid (S1.out.step A.out.1)
            have Br := Lib.hid (B1.out.trans (A.out.1.mono B1.out.size))
            clear hk hlt O A V1 S1 B1
            go_wp2_with fail
            refine (given_any _ xs _ Vr.out (by rw [LN.out]; have := K.out; omega)).mono ?_
            rintro ev w2 ⟨gv, rfl, ho, hs⟩
            obtain ⟨ga, gc, rfl, -, -⟩ := ho.lenN LN.out
            have b2 := alloc_below0 w2 (.cells #[.string ⟨#[]⟩, .string ⟨#[]⟩, .bool true] 53)
            have P2 := Lib.hid (lit_sp w2 w2.heap.size rfl ⟨#[]⟩ ⟨#[]⟩ true)
            have G2 := Lib.hid (show WrV lPw (w2.alloc (.cells #[.string ⟨#[]⟩, .string ⟨#[]⟩, .bool true] 53)) (.slice ga k gc) xs from ⟨ho.sv.below b2, Vr.out.2⟩)
            have K2 := Lib.hid (show SV lStr (w2.alloc (.cells #[.string ⟨#[]⟩, .string ⟨#[]⟩, .bool true] 53)) _ (xs.map (·.1)) from (KS.out.sv.below hs).below b2)
            have S2 := Lib.hid ((Sr.out.step hs).step b2)
            have br2 := Br.out.trans (hs.mono Br.out.size)
            have B2 := Lib.hid (br2.trans (b2.mono br2.size))
            have LM := Lib.hid (show (xs.map (·.1)).length ≤ 100 by rw [List.length_map, LN.out]; have := K.out; omega)
            have LX := Lib.hid (show xs.length ≤ 100 by rw [LN.out]; have := K.out; omega)
            clear hs ho b2 br2 KS Vr Sr Br
            go_wp2_with fail
            refine (C.W.clash _ _ _ [] [(⟨#[]⟩, ⟨#[]⟩, true)] xs _ (SV.nil _ _) P2.out G2.out no_keys (one_small (by decide) (by decide)) (by simp) (by simp) LX.out).mono ?_
            rintro ev w3 ⟨rfl, hs⟩
            rw [clashW_whole]
            have G3 := Lib.hid (G2.out.below hs)
            have K3 := Lib.hid (K2.out.below hs)
            have S3 := Lib.hid (S2.out.step hs)
            have B3 := Lib.hid (B2.out.trans (hs.mono B2.out.size))
            clear hs G2 K2 S2 B2 P2
            go_wp2_with fail
            refine (C.W.clash _ _ _ [] [] xs _ (SV.nil _ _) (SV.nil _ _) G3.out no_keys no_spans (by simp) (by simp) LX.out).mono ?_
            rintro ev w4 ⟨rfl, hs⟩
            rw [clashW_none]
            have G4 := Lib.hid (G3.out.below hs)
            have K4 := Lib.hid (K3.out.below hs)
            have S4 := Lib.hid (S3.out.step hs)
            have B4 := Lib.hid (B3.out.trans (hs.mono B3.out.size))
            clear hs G3 K3 S3 B3
            go_wp2_with fail
            refine (C.W.clash _ _ _ (xs.map (·.1)) [] xs _ K4.out (SV.nil _ _) G4.out (keys_small G4.out.2) no_spans LM.out (by simp) LX.out).mono ?_
            rintro ev w5 ⟨rfl, hs⟩
            rw [clashW_own]
            have G5 := Lib.hid (G4.out.below hs)
            have K5 := Lib.hid (K4.out.below hs)
            have s5 := S4.out.step hs
            have B5 := Lib.hid (B4.out.trans (hs.mono B4.out.size))
            have b6 := alloc_below0 w5 (.cells #[.string l, .string h, .bool u] 53)
            have P6 := Lib.hid (lit_sp w5 w5.heap.size rfl l h u)
            have G6 := Lib.hid (G5.out.below b6)
            have K6 := Lib.hid (K5.out.below b6)
            have S6 := Lib.hid (s5.step b6)
            have B6 := Lib.hid (B5.out.trans (b6.mono B5.out.size))
            have c0 := s5.c0
            have c1 := s5.c1
            have c2 := s5.c2
            clear hs G4 K4 S4 B4 s5 b6 G5 K5 B5
            by_cases hk0 : 0 < k
            · have j0 : (0 : Int) < (k : Int) := by omega
              have hz : (!xs.isEmpty) = true := by
                have := LN.out
                cases xs with
                | nil => simp at this; omega
                | cons y ys => rfl
              have HZ := Lib.hid hz
              rw [hz]
              clear hz hk0
              go_wp2_with fail
              refine (C.W.clash _ _ _ (xs.map (·.1)) [(l, h, u)] [] _ K6.out P6.out (WrV.nil _ _) (keys_small G6.out.2) (one_small HL.out.1 HL.out.2) LM.out (by simp) (by simp)).mono ?_
              rintro ev w6 ⟨rfl, hs⟩
              rw [clashW_nobody]
              have G7 := Lib.hid (G6.out.below hs)
              have s7 := S6.out.step hs
              have B7 := Lib.hid (B6.out.trans (hs.mono B6.out.size))
              have b8 := alloc_below0 w6 (.cells #[.string l, .string h, .bool u] 53)
              have P8 := Lib.hid (lit_sp w6 w6.heap.size rfl l h u)
              have G8 := Lib.hid (G7.out.below b8)
              have B8 := Lib.hid (B7.out.trans (b8.mono B7.out.size))
              have c0 := s7.c0
              have c1 := s7.c1
              have c2 := s7.c2
              clear hs s7 b8 K6 G6 S6 B6 P6
              go_wp2_with fail
              refine (C.W.clash _ _ _ [] [(l, h, u)] xs _ (SV.nil _ _) P8.out G8.out no_keys (one_small HL.out.1 HL.out.2) (by simp) (by simp) LX.out).mono ?_
              rintro ev w7 ⟨rfl, hs⟩
              have B9 := Lib.hid (B8.out.trans (hs.mono B8.out.size))
              cases clashW [] [(l, h, u)] xs <;>
              · clear hs
                go_wp2_with fail
                refine (awake16 C.T _).mono ?_
                rintro ev w8 ⟨rfl, hs⟩
                have B10 := Lib.hid (B9.out.trans (hs.mono B9.out.size))
                clear hs
                go_wp2
                go_ret
                exact ⟨rfl, B10.out⟩
            · obtain rfl : k = 0 := by omega
              have hz : (!xs.isEmpty) = false := by rw [List.eq_nil_of_length_eq_zero LN.out]; rfl
              have HZ := Lib.hid hz
              rw [hz]
              clear hz hk0
              go_wp2_with fail
              refine (C.W.clash _ _ _ (xs.map (·.1)) [(l, h, u)] [] _ K6.out P6.out (WrV.nil _ _) (keys_small G6.out.2) (one_small HL.out.1 HL.out.2) LM.out (by simp) (by simp)).mono ?_
              rintro ev w6 ⟨rfl, hs⟩
              rw [clashW_nobody]
              have G7 := Lib.hid (G6.out.below hs)
              have s7 := S6.out.step hs
              have B7 := Lib.hid (B6.out.trans (hs.mono B6.out.size))
              have b8 := alloc_below0 w6 (.cells #[.string l, .string h, .bool u] 53)
              have P8 := Lib.hid (lit_sp w6 w6.heap.size rfl l h u)
              have G8 := Lib.hid (G7.out.below b8)
              have B8 := Lib.hid (B7.out.trans (b8.mono B7.out.size))
              have c0 := s7.c0
              have c1 := s7.c1
              have c2 := s7.c2
              clear hs s7 b8 K6 G6 S6 B6 P6
              go_wp2_with fail
              refine (C.W.clash _ _ _ [] [(l, h, u)] xs _ (SV.nil _ _) P8.out G8.out no_keys (one_small HL.out.1 HL.out.2) (by simp) (by simp) LX.out).mono ?_
              rintro ev w7 ⟨rfl, hs⟩
              have B9 := Lib.hid (B8.out.trans (hs.mono B8.out.size))
              have hq : clashW [] [(l, h, u)] xs = false := by
                cases hc : clashW [] [(l, h, u)] xs with
                | false => rfl
                | true => have := clashW_some hc; rw [HZ.out] at this; exact this.symm
              rw [hq]
              clear hs hq
              go_wp2_with fail
              refine (awake16 C.T _).mono ?_
              rintro ev w8 ⟨rfl, hs⟩
              have B10 := Lib.hid (B9.out.trans (hs.mono B9.out.size))
              clear hs
              go_wp2
              go_ret
              exact ⟨rfl, B10.out⟩
      · go_wp2_with fail
        refine (awake16 C.T _).mono ?_
        rintro ev w2 ⟨rfl, hs⟩
        have B2 := Lib.hid (B1.out.trans (hs.mono B1.out.size))
        clear hs
        go_wp2
        go_ret
        exact ⟨rfl, B2.out⟩
    · go_wp2_with fail
      refine (awake16 C.T _).mono ?_
      rintro ev w2 ⟨rfl, hs⟩
      have B2 := Lib.hid (B1.out.trans (hs.mono B1.out.size))
      clear hs
      go_wp2
      go_ret
      exact ⟨rfl, B2.out⟩
end Go.Proofs.Ytkbfhpgcjljbbaa
