/- The walk of the law CommitsClash. -/
import Derived.Test.YtkbfhpgcjljbbaaCmClear
namespace Go.Proofs.Ytkbfhpgcjljbbaa
set_option linter.unusedVariables false
set_option linter.unusedSimpArgs false
open Go.RowKit

theorem str_cell {w : World} {b off n cap : Nat} {ks : List ByteArray} (h : SV lStr w (.slice (some ⟨b, off, none⟩) n cap) ks) {i : Nat} {k : ByteArray} (hi : ks[i]? = some k) : w.cell? ⟨b, off + i, none⟩ = some (.string k) := by
  have := h.cellAt hi (j := 0) (u := .string k) rfl; simpa [lStr] using this
theorem sp_cells {w : World} {b off n cap : Nat} {ss : List Sp} (h : SV lSp w (.slice (some ⟨b, off, none⟩) n cap) ss) {i : Nat} {s : Sp} (hi : ss[i]? = some s) :
    w.cell? ⟨b, off + i * 3, none⟩ = some (.string s.1) ∧ w.cell? ⟨b, off + i * 3 + 1, none⟩ = some (.string s.2.1) ∧ w.cell? ⟨b, off + i * 3 + 2, none⟩ = some (.bool s.2.2) :=
  ⟨by have := h.cellAt hi (j := 0) (u := .string s.1) rfl; simpa [lSp] using this, by have := h.cellAt hi (j := 1) (u := .string s.2.1) rfl; simpa [lSp] using this, by have := h.cellAt hi (j := 2) (u := .bool s.2.2) rfl; simpa [lSp] using this⟩
theorem take_next {α : Type} {xs : List α} {k : Nat} {x : α} (h : xs[k]? = some x) : xs.take (k + 1) = xs.take k ++ [x] := by
  obtain ⟨hk, e⟩ := List.getElem?_eq_some_iff.1 h
  rw [List.take_succ_eq_append_getElem hk, e]
def inW (s : Sp) (x : Wr) : Bool := inn s.1.data.toList s.2.1.data.toList s.2.2 x.1.data.toList
theorem any_next {α : Type} {p : α → Bool} {xs : List α} {k : Nat} {x : α} (h : xs[k]? = some x) : (xs.take (k + 1)).any p = ((xs.take k).any p || p x) := by
  rw [take_next h, List.any_append]; simp
theorem any_full {α : Type} {p : α → Bool} {xs : List α} {k : Nat} (h : xs.length = k) : (xs.take k).any p = xs.any p := by rw [List.take_of_length_le (Nat.le_of_eq h)]
/-- in one span, at least one of the first j; or in s, one of the first i writes -/
def wantS (ss : List Sp) (xs : List Wr) (j : Nat) : Bool := (ss.take j).any (fun s => xs.any (inW s))
theorem wantS_next {ss : List Sp} {xs : List Wr} {j : Nat} {s : Sp} (h : ss[j]? = some s) : wantS ss xs (j + 1) = (wantS ss xs j || xs.any (inW s)) := any_next h
theorem wantS_full (ss : List Sp) (xs : List Wr) {j : Nat} (h : ss.length = j) : wantS ss xs j = inAny ss xs := any_full h
def wantK (ks : List ByteArray) (xs : List Wr) (i : Nat) : Bool := (xs.take i).any (fun x => ks.any (fun k => eqB k x.1))
theorem wantK_next {ks : List ByteArray} {xs : List Wr} {i : Nat} {x : Wr} (h : xs[i]? = some x) : wantK ks xs (i + 1) = (wantK ks xs i || ks.any (fun k => eqB k x.1)) := any_next h
theorem wantK_full (ks : List ByteArray) (xs : List Wr) {i : Nat} (h : xs.length = i) : wantK ks xs i = keyAny ks xs := any_full h
set_option maxRecDepth 100000 in
set_option maxHeartbeats 4000000 in
theorem lawClash (C : CmC) (kv sv v : Value) (ks : List ByteArray) (ss : List Sp) (xs : List Wr) (w : World) (hk : SV lStr w kv ks) (hs : SV lSp w sv ss) (hv : WrV lDw w v xs) (hks : ∀ k ∈ ks, k.size ≤ maxLen) (hss : ∀ s ∈ ss, s.1.size ≤ maxLen ∧ s.2.1.size ≤ maxLen) :
    Calls Try.prog 5 #[kv, sv, v] w fun ev w' => ev = .returned (.bool true) ∧ Below w.heap.size w w' := by
  obtain ⟨ka, kc, rfl, klc, kcm⟩ := hk.lenform
  obtain ⟨sa, sc, rfl, slc, scm⟩ := hs.lenform
  obtain ⟨a, cap, rfl, hlc, hcm⟩ := hv.1.lenform
  obtain ⟨p, hp⟩ : ∃ p, ks.length = p := ⟨_, rfl⟩
  obtain ⟨q, hq⟩ : ∃ q, ss.length = q := ⟨_, rfl⟩
  obtain ⟨n, hn⟩ : ∃ n, xs.length = n := ⟨_, rfl⟩
  rw [hp] at hk klc ⊢
  rw [hq] at hs slc ⊢
  rw [hn] at hv hlc ⊢
  have V0 := Lib.hid hv
  have K0 := Lib.hid hk
  have S0 := Lib.hid hs
  have B0 := Lib.hid (Below.refl w.heap.size w)
  have LN := Lib.hid (show ks.length = p ∧ ss.length = q ∧ xs.length = n from ⟨hp, hq, hn⟩)
  have HS := Lib.hid (show (∀ k ∈ ks, k.size ≤ maxLen) ∧ ∀ s ∈ ss, s.1.size ≤ maxLen ∧ s.2.1.size ≤ maxLen from ⟨hks, hss⟩)
  clear hv hk hs hn hp hq hks hss
  by_cases h1 : p ≤ 20
  · by_cases h2 : q ≤ 20
    · go_enter Try.func5, Try.ntmps5
      go_wp2_with fail
      refine (wfew_any _ xs _ V0.out).mono ?_
      rintro ev w1 ⟨rfl, hs⟩
      have V1 := Lib.hid (V0.out.below hs)
      have K1 := Lib.hid (K0.out.below hs)
      have S1 := Lib.hid (S0.out.below hs)
      have B1 := Lib.hid (B0.out.trans (hs.mono B0.out.size))
      clear V0 K0 S0 B0 hs
      cases hf : fewW xs with
      | false =>
        clear hf
        go_wp2_with fail
        refine (awake16 C.T _).mono ?_
        rintro ev w2 ⟨rfl, hs⟩
        have B2 := Lib.hid (B1.out.trans (hs.mono B1.out.size))
        clear hs
        go_wp2
        go_ret
        exact ⟨rfl, B2.out⟩
      | true =>
        have KF := Lib.hid (show n ≤ 40 by rw [← LN.out.2.2]; exact fewW_len hf)
        clear hf
        go_wp2
        go_loopg [34] p (fun c i wr => ∃ k : Nat, k + c = p ∧ i = .int .i64 k ∧ Below w1.heap.size w1 wr)
        case atStart => exact ⟨0, by omega, rfl, Below.refl _ _⟩
        case round =>
          obtain ⟨k, hk, rfl, hB⟩ := hrel
          have A := Lib.hid (show Below w1.heap.size w1 wr ∧ k + gk = p from ⟨hB, hk⟩)
          clear hB
          by_cases hlt : k < p
          · obtain ⟨x, hx⟩ : ∃ x, ks[k]? = some x := ⟨_, List.getElem?_eq_getElem (by rw [LN.out.1]; exact hlt)⟩
            obtain ⟨b, off, ha⟩ := K1.out.addr (by rw [LN.out.1]; omega)
            subst ha
            have x0 := str_cell (K1.out.below A.out.1) hx
            have xl := HS.out.1 x (List.mem_of_getElem? hx)
            unfold maxLen at xl
            have j3 : (0 : Int) ≤ (k : Int) := by omega
            have j4 : (k : Int) < (p : Int) := by omega
            clear hx
            by_cases hz : x.size ≤ 100
            · go_wp2
              go_roundg (p - (k + 1))
              case measure => have := A.out.2; omega
              case rel => exact ⟨k + 1, by omega, by go_num, A.out.1⟩
            · have B2 := Lib.hid (B1.out.trans (A.out.1.mono B1.out.size))
              go_wp2_with fail
              refine (awake16 C.T _).mono ?_
              rintro ev w2 ⟨rfl, hs⟩
              have B3 := Lib.hid (B2.out.trans (hs.mono B2.out.size))
              clear hs
              go_wp2
              go_ret
              exact ⟨rfl, B3.out⟩
          · obtain rfl : p = k := by have := A.out.2; omega
            have V2 := Lib.hid (V1.out.below A.out.1)
            have K2 := Lib.hid (K1.out.below A.out.1)
            have S2 := Lib.hid (S1.out.below A.out.1)
            have B2 := Lib.hid (B1.out.trans (A.out.1.mono B1.out.size))
            clear V1 K1 S1 B1 A hlt hk
            generalize wr = w2 at *
            go_wp2
            go_loopg [9, 45] q (fun c want i wr => ∃ j : Nat, j + c = q ∧ i = .int .i64 j ∧ want = .bool (wantS ss xs j) ∧ Below w2.heap.size w2 wr)
            case atStart => exact ⟨0, by omega, rfl, rfl, Below.refl _ _⟩
            case round =>
              obtain ⟨j, hj, rfl, rfl, hB⟩ := hrel
              have A := Lib.hid (show Below w2.heap.size w2 wr ∧ j + gk = q from ⟨hB, hj⟩)
              clear hB
              by_cases hlt : j < q
              · obtain ⟨s, hx⟩ : ∃ s, ss[j]? = some s := ⟨_, List.getElem?_eq_getElem (by rw [LN.out.2.1]; exact hlt)⟩
                obtain ⟨b, off, ha⟩ := S2.out.addr (by rw [LN.out.2.1]; omega)
                subst ha
                obtain ⟨x0, x1, x2⟩ := sp_cells (S2.out.below A.out.1) hx
                have SL := Lib.hid (HS.out.2 s (List.mem_of_getElem? hx))
                have sl := SL.out
                unfold maxLen at sl
                obtain ⟨sl1, sl2⟩ := sl
                have HX := Lib.hid hx
                have j3 : (0 : Int) ≤ (j : Int) := by omega
                have j4 : (j : Int) < (q : Int) := by omega
                have b3 := alloc_below0 wr (.cells #[.string s.1, .string s.2.1, .bool s.2.2] 53)
                have P3 := Lib.hid (SB.new s.1 s.2.1 s.2.2 wr 53)
                have B3 := Lib.hid (A.out.1.trans (b3.mono A.out.1.size))
                clear hx b3
                by_cases hz1 : s.1.size ≤ 100
                · by_cases hz2 : s.2.1.size ≤ 100
                  · obtain ⟨w3, hw3⟩ : ∃ W, W = wr.alloc (.cells #[.string s.1, .string s.2.1, .bool s.2.2] 53) := ⟨_, rfl⟩
                    rw [← hw3] at P3 B3
                    have V3 := Lib.hid (V2.out.below B3.out)
                    go_wp2
                    rw [← hw3]
                    clear hw3 x0 x1 x2
                    go_loopg [9, 62] n (fun c want i wr => ∃ k : Nat, k + c = n ∧ i = .int .i64 k ∧ want = .bool (wantS ss xs j || (xs.take k).any (inW s)) ∧ Below w3.heap.size w3 wr)
                    case atStart => exact ⟨0, by omega, rfl, by simp, Below.refl _ _⟩
                    case round =>
                      obtain ⟨k, hk, rfl, rfl, hB⟩ := hrel
                      have D := Lib.hid (show Below w3.heap.size w3 wr ∧ k + gk = n from ⟨hB, hk⟩)
                      clear hB
                      by_cases hlk : k < n
                      · obtain ⟨x, hx⟩ : ∃ x, xs[k]? = some x := ⟨_, List.getElem?_eq_getElem (by rw [LN.out.2.2]; exact hlk)⟩
                        obtain ⟨b2, off2, ha⟩ := V3.out.1.addr (by rw [LN.out.2.2]; omega)
                        subst ha
                        obtain ⟨y0, y1, y2⟩ := (V3.out.below D.out.1).cells hx
                        have XL := Lib.hid (V3.out.2.at hx)
                        have T := Lib.hid (any_next (p := inW s) hx)
                        have i3 : (0 : Int) ≤ (k : Int) := by omega
                        have i4 : (k : Int) < (n : Int) := by omega
                        have i5 : n ≤ 40 := KF.out
                        have b4 := alloc_below0 wr (.cells #[.string x.1, .string x.2.1, .bool x.2.2] 54)
                        have p4 := (P3.out.step D.out.1).step b4
                        have B4 := Lib.hid (D.out.1.trans (b4.mono D.out.1.size))
                        have z0 := p4.c0
                        have z1 := p4.c1
                        have z2 := p4.c2
                        clear hx p4 b4
                        cases hw : (wantS ss xs j || (xs.take k).any (inW s)) with
                        | true =>
                          have G := Lib.hid (show (wantS ss xs j || (xs.take (k + 1)).any (inW s)) = true by rw [T.out, ← Bool.or_assoc, hw]; rfl)
                          clear hw
                          go_wp2
                          go_roundg (n - (k + 1))
                          case measure => have := D.out.2; omega
                          case rel => exact ⟨k + 1, by omega, by go_num, by rw [G.out], B4.out⟩
                        | false =>
                          have G := Lib.hid (show (wantS ss xs j || (xs.take (k + 1)).any (inW s)) = inW s x by rw [T.out, ← Bool.or_assoc, hw]; rfl)
                          clear hw
                          go_wp2_with fail
                          refine (refIn_any s.1 s.2.1 x.1 s.2.2 _ SL.out.1 SL.out.2 XL.out.1).mono ?_
                          rintro ev w5 ⟨rfl, hs⟩
                          have B5 := Lib.hid (B4.out.trans (hs.mono B4.out.size))
                          clear hs z0 z1 z2 y0 y1 y2
                          go_wp2
                          go_roundg (n - (k + 1))
                          case measure => have := D.out.2; omega
                          case rel => exact ⟨k + 1, by omega, by go_num, by rw [G.out]; rfl, B5.out⟩
                      · obtain rfl : k = n := by have := D.out.2; omega
                        have G := Lib.hid (show (wantS ss xs j || (xs.take k).any (inW s)) = wantS ss xs (j + 1) by rw [wantS_next HX.out, any_full LN.out.2.2])
                        have B4 := Lib.hid (B3.out.trans (D.out.1.mono B3.out.size))
                        have j5 : q ≤ 20 := h2
                        rw [G.out]
                        go_wp2
                        go_roundg (q - (j + 1))
                        case measure => have := A.out.2; omega
                        case rel => exact ⟨j + 1, by omega, by go_num, rfl, B4.out⟩
                  · have B4 := Lib.hid (B2.out.trans (B3.out.mono B2.out.size))
                    go_wp2_with fail
                    refine (awake16 C.T _).mono ?_
                    rintro ev wz ⟨rfl, hs⟩
                    have BZ := Lib.hid (B4.out.trans (hs.mono B4.out.size))
                    clear hs
                    go_wp2
                    go_ret
                    exact ⟨rfl, BZ.out⟩
                · have B4 := Lib.hid (B2.out.trans (B3.out.mono B2.out.size))
                  go_wp2_with fail
                  refine (awake16 C.T _).mono ?_
                  rintro ev wz ⟨rfl, hs⟩
                  have BZ := Lib.hid (B4.out.trans (hs.mono B4.out.size))
                  clear hs
                  go_wp2
                  go_ret
                  exact ⟨rfl, BZ.out⟩
              · obtain rfl : q = j := by have := A.out.2; omega
                have V3 := Lib.hid (V2.out.below A.out.1)
                have K3 := Lib.hid (K2.out.below A.out.1)
                have S3 := Lib.hid (S2.out.below A.out.1)
                have B3 := Lib.hid (B2.out.trans (A.out.1.mono B2.out.size))
                have W0 := Lib.hid (wantS_full ss xs LN.out.2.1)
                rw [W0.out]
                generalize hw0 : inAny ss xs = wn
                have HW := Lib.hid hw0
                clear V2 K2 S2 B2 A hlt hj hw0 W0
                generalize wr = w3 at *
                go_wp2
                go_loopg [9, 82] n (fun c want i wr => ∃ k : Nat, k + c = n ∧ i = .int .i64 k ∧ want = .bool (wn || wantK ks xs k) ∧ Below w3.heap.size w3 wr)
                case atStart => exact ⟨0, by omega, rfl, by simp [wantK], Below.refl _ _⟩
                case round =>
                  obtain ⟨k, hk, rfl, rfl, hB⟩ := hrel
                  have A := Lib.hid (show Below w3.heap.size w3 wr ∧ k + gk = n from ⟨hB, hk⟩)
                  clear hB
                  by_cases hlt : k < n
                  · obtain ⟨x, hx⟩ : ∃ x, xs[k]? = some x := ⟨_, List.getElem?_eq_getElem (by rw [LN.out.2.2]; exact hlt)⟩
                    obtain ⟨b, off, ha⟩ := V3.out.1.addr (by rw [LN.out.2.2]; omega)
                    subst ha
                    obtain ⟨x0, x1, x2⟩ := (V3.out.below A.out.1).cells hx
                    have HX := Lib.hid hx
                    have j3 : (0 : Int) ≤ (k : Int) := by omega
                    have j4 : (k : Int) < (n : Int) := by omega
                    have b4 := alloc_below0 wr (.cells #[.string x.1, .string x.2.1, .bool x.2.2] 54)
                    have P4 := Lib.hid (SB.new x.1 x.2.1 x.2.2 wr 54)
                    have B4 := Lib.hid (A.out.1.trans (b4.mono A.out.1.size))
                    obtain ⟨w4, hw4⟩ : ∃ W, W = wr.alloc (.cells #[.string x.1, .string x.2.1, .bool x.2.2] 54) := ⟨_, rfl⟩
                    rw [← hw4] at P4 B4
                    have K4 := Lib.hid (K3.out.below B4.out)
                    clear hx b4
                    go_wp2
                    rw [← hw4]
                    clear hw4 x0 x1 x2
                    go_loopg [9, 88] p (fun c want i wr => ∃ j : Nat, j + c = p ∧ i = .int .i64 j ∧ want = .bool ((wn || wantK ks xs k) || (ks.take j).any (fun k => eqB k x.1)) ∧ Below w4.heap.size w4 wr)
                    case atStart => exact ⟨0, by omega, rfl, by simp, Below.refl _ _⟩
                    case round =>
                      obtain ⟨j, hj, rfl, rfl, hB⟩ := hrel
                      have D := Lib.hid (show Below w4.heap.size w4 wr ∧ j + gk = p from ⟨hB, hj⟩)
                      clear hB
                      by_cases hlj : j < p
                      · obtain ⟨y, hy⟩ : ∃ y, ks[j]? = some y := ⟨_, List.getElem?_eq_getElem (by rw [LN.out.1]; exact hlj)⟩
                        obtain ⟨b2, off2, ha⟩ := K4.out.addr (by rw [LN.out.1]; omega)
                        subst ha
                        have y0 := str_cell (K4.out.below D.out.1) hy
                        have z0 := (P4.out.step D.out.1).c0
                        have T := Lib.hid (any_next (p := fun k => eqB k x.1) hy)
                        have i3 : (0 : Int) ≤ (j : Int) := by omega
                        have i4 : (j : Int) < (p : Int) := by omega
                        have i5 : p ≤ 20 := h1
                        clear hy
                        cases hw : ((wn || wantK ks xs k) || (ks.take j).any (fun k => eqB k x.1)) with
                        | true =>
                          have G := Lib.hid (show ((wn || wantK ks xs k) || (ks.take (j + 1)).any (fun k => eqB k x.1)) = true by rw [T.out, ← Bool.or_assoc, hw]; rfl)
                          clear hw
                          go_wp2
                          go_roundg (p - (j + 1))
                          case measure => have := D.out.2; omega
                          case rel => exact ⟨j + 1, by omega, by go_num, by rw [G.out], D.out.1⟩
                        | false =>
                          have G := Lib.hid (show ((wn || wantK ks xs k) || (ks.take (j + 1)).any (fun k => eqB k x.1)) = eqB y x.1 by rw [T.out, ← Bool.or_assoc, hw]; rfl)
                          clear hw
                          go_wp2
                          go_roundg (p - (j + 1))
                          case measure => have := D.out.2; omega
                          case rel => exact ⟨j + 1, by omega, by go_num, by rw [G.out]; rfl, D.out.1⟩
                      · obtain rfl : j = p := by have := D.out.2; omega
                        have G := Lib.hid (show ((wn || wantK ks xs k) || (ks.take j).any (fun k => eqB k x.1)) = (wn || wantK ks xs (k + 1)) by rw [wantK_next HX.out, any_full LN.out.1, Bool.or_assoc])
                        have B5 := Lib.hid (B4.out.trans (D.out.1.mono B4.out.size))
                        have j5 : n ≤ 40 := KF.out
                        rw [G.out]
                        go_wp2
                        go_roundg (n - (k + 1))
                        case measure => have := A.out.2; omega
                        case rel => exact ⟨k + 1, by omega, by go_num, rfl, B5.out⟩
                  · obtain rfl : k = n := by have := A.out.2; omega
                    have V4 := Lib.hid (V3.out.below A.out.1)
                    have K4 := Lib.hid (K3.out.below A.out.1)
                    have S4 := Lib.hid (S3.out.below A.out.1)
                    have B4 := Lib.hid (B3.out.trans (A.out.1.mono B3.out.size))
                    have W0 := Lib.hid (show (wn || wantK ks xs k) = clashW ks ss xs by rw [wantK_full ks xs LN.out.2.2, clashW_parts, HW.out])
                    rw [W0.out]
                    clear V3 K3 S3 B3 A hlt hk W0
                    generalize wr = w4 at *
                    go_wp2_with fail
                    refine (given_any _ xs _ V4.out (by rw [LN.out.2.2]; have := KF.out; omega)).mono ?_
                    rintro ev w5 ⟨gv, rfl, ho, hs⟩
                    obtain ⟨ga, gc, rfl, -, -⟩ := ho.lenN LN.out.2.2
                    have G5 := Lib.hid (show WrV lPw w5 (.slice ga k gc) xs from ⟨ho.sv, V4.out.2⟩)
                    have K5 := Lib.hid (K4.out.below hs)
                    have S5 := Lib.hid (S4.out.below hs)
                    have B5 := Lib.hid (B4.out.trans (hs.mono B4.out.size))
                    clear hs ho V4 K4 S4 B4
                    go_wp2_with fail
                    refine (C.W.clash _ _ _ ks ss xs _ K5.out S5.out G5.out HS.out.1 HS.out.2 (by rw [LN.out.1]; omega) (by rw [LN.out.2.1]; omega) (by rw [LN.out.2.2]; have := KF.out; omega)).mono ?_
                    rintro ev w6 ⟨rfl, hs⟩
                    have B6 := Lib.hid (B5.out.trans (hs.mono B5.out.size))
                    clear hs
                    cases clashW ks ss xs
                    all_goals
                      go_wp2_with fail
                      refine (awake16 C.T _).mono ?_
                      rintro ev wz ⟨rfl, hs⟩
                      have BZ := Lib.hid (B6.out.trans (hs.mono B6.out.size))
                      clear hs
                      go_wp2
                      go_ret
                      exact ⟨rfl, BZ.out⟩
    · go_enter Try.func5, Try.ntmps5
      go_wp2_with fail
      refine (awake16 C.T _).mono ?_
      rintro ev wz ⟨rfl, hs⟩
      have BZ := Lib.hid (B0.out.trans (hs.mono B0.out.size))
      clear hs
      go_wp2
      go_ret
      exact ⟨rfl, BZ.out⟩
  · go_enter Try.func5, Try.ntmps5
    go_wp2_with fail
    refine (awake16 C.T _).mono ?_
    rintro ev wz ⟨rfl, hs⟩
    have BZ := Lib.hid (B0.out.trans (hs.mono B0.out.size))
    clear hs
    go_wp2
    go_ret
    exact ⟨rfl, BZ.out⟩
end Go.Proofs.Ytkbfhpgcjljbbaa
