/- Package commits' Over (and a write's over), by contracts (layer 16). -/
import Derived.Test.YtkbfhpgcjljbbaaCmInv
import Derived.Test.YtkbfhpgcjljbbaaCmRgt
import Derived.Test.YtkbfhpgcjljbbaaCmOver
import Derived.Test.YtkbfhpgcjljbbaaRwPutC
namespace Go.Proofs.Ytkbfhpgcjljbbaa
set_option linter.unusedVariables false
set_option linter.unusedSimpArgs false
open Go.RowKit

set_option maxRecDepth 100000 in
set_option maxHeartbeats 4000000 in
theorem over16 (v : Value) (rs : List Rw) (x y : ByteArray) (g : Bool) (w : World) (hv : RowsV w v rs) (hl : rs.length ≤ 1000) (hx : x.size ≤ maxLen ∧ y.size ≤ maxLen) :
    Calls Try.prog 53 #[.agg #[.string x, .string y, .bool g], v] w fun ev w' => ∃ v', ev = .returned v' ∧ RowsV w' v' (over1 rs (x, y, g)) ∧ Below w.heap.size w w' := by
  have V := Lib.hid hv
  have HL := Lib.hid hl
  have M := Lib.hid hx
  have ba := alloc_below0 w (.cells #[.string x, .string y, .bool g] 41)
  have BA := Lib.hid ba
  have VA := Lib.hid (RowsV.below ba hv)
  clear hv hl hx ba
  cases g with
  | true =>
    go_enter Try.func53, Try.ntmps53
    go_wp2_with fail
    refine (drop_any _ rs x _ VA.out HL.out).mono ?_
    rintro ev w1 ⟨v', rfl, hr, hs⟩
    have R := Lib.hid hr
    have B := Lib.hid (BA.out.trans (hs.mono BA.out.size))
    clear hr hs
    go_wp2
    go_ret
    exact ⟨_, rfl, R.out, B.out⟩
  | false =>
    cases hf : fitB (x, y) with
    | false =>
      have H := Lib.hid hf
      have O := Lib.hid (over1_not rs x y hf)
      clear hf
      go_enter Try.func53, Try.ntmps53
      go_wp2_with fail
      refine (row16 _ _ _ _).mono ?_
      rintro ev w1 ⟨rfl, hs⟩
      have B1 := Lib.hid (BA.out.trans (hs.mono BA.out.size))
      have V1 := Lib.hid (RowsV.below hs VA.out)
      clear hs
      go_wp2_with fail
      refine (putNo_any _ x y _ M.out.1 M.out.2 H.out).mono ?_
      rintro ev w2 ⟨v', rfl, hr, hs⟩
      have B2 := Lib.hid (B1.out.trans (hs.mono B1.out.size))
      have V2 := Lib.hid (RowsV.below hs V1.out)
      clear hs hr
      go_wp2
      go_ret
      exact ⟨_, rfl, by rw [O.out]; exact V2.out, B2.out⟩
    | true =>
      have H := Lib.hid hf
      have O := Lib.hid (over1_put rs x y hf)
      clear hf
      go_enter Try.func53, Try.ntmps53
      go_wp2_with fail
      refine (row16 _ _ _ _).mono ?_
      rintro ev w1 ⟨rfl, hs⟩
      have B1 := Lib.hid (BA.out.trans (hs.mono BA.out.size))
      have V1 := Lib.hid (RowsV.below hs VA.out)
      clear hs
      go_wp2_with fail
      refine (put_any _ rs x y _ V1.out HL.out M.out.1 M.out.2 H.out).mono ?_
      rintro ev w2 ⟨v', rfl, hr, hs⟩
      have B2 := Lib.hid (B1.out.trans (hs.mono B1.out.size))
      have R := Lib.hid hr
      clear hs hr
      go_wp2
      go_ret
      exact ⟨_, rfl, by rw [O.out]; exact R.out, B2.out⟩
theorem overP_len : ∀ (ps : List (List Wr)) (l : List Rw), (∀ p ∈ ps, p.length ≤ 100) → (overP l ps).length ≤ l.length + 100 * ps.length
  | [], l, _ => by simp [overP]
  | p :: ps, l, h => by
    have h1 := overP_len ps (overW l p) (fun q hq => h q (List.mem_cons_of_mem _ hq))
    have h2 := overW_len p l
    have h3 := h p (List.mem_cons_self ..)
    show (overP (overW l p) ps).length ≤ _
    simp only [List.length_cons]; omega
theorem overP_next {l : List Rw} {ps : List (List Wr)} {k : Nat} {p : List Wr} (h : ps[k]? = some p) : overP l (ps.take (k + 1)) = overW (overP l (ps.take k)) p := by
  obtain ⟨hk, e⟩ := List.getElem?_eq_some_iff.1 h
  rw [List.take_succ_eq_append_getElem hk, e]; unfold overP; rw [List.foldl_append]; rfl
set_option maxRecDepth 100000 in
set_option maxHeartbeats 4000000 in
theorem overs16 (v u : Value) (rs : List Rw) (ps : List (List Wr)) (w : World) (hv : RowsV w v rs) (hu : PsV w u ps) (hp : ∀ p ∈ ps, p.length ≤ 100) (h1 : rs.length ≤ 100) (h2 : ps.length ≤ 3) :
    Calls Try.prog 35 #[v, u] w fun ev w' => ∃ v', ev = .returned v' ∧ RowsV w' v' (overP rs ps) ∧ Below w.heap.size w w' := by
  obtain ⟨ss, su, sl, sp⟩ := hu
  obtain ⟨a, cap, rfl, hlc, hcm⟩ := su.lenform
  obtain ⟨m, hm⟩ : ∃ m, ss.length = m := ⟨_, rfl⟩
  rw [hm] at su hlc sl ⊢
  have SU := Lib.hid su
  have SP := Lib.hid sp
  have V := Lib.hid hv
  have LN := Lib.hid (show ss.length = m ∧ ps.length = m ∧ m ≤ 3 ∧ rs.length ≤ 100 from ⟨hm, sl.symm, by omega, h1⟩)
  have HP := Lib.hid hp
  unfold maxLen at hcm
  clear su sp hv hm sl hp h1 h2
  go_enter Try.func35, Try.ntmps35
  go_wp2_with fail
  refine (copy_own _ rs _ V.out (by have := LN.out; omega)).mono ?_
  rintro ev w1 ⟨v1, rfl, hr, hs⟩
  have R1 := Lib.hid (hr.rows V.out.small)
  have B1 := Lib.hid hs
  clear hr hs
  go_wp2
  go_loopg [0, 13] m (fun c l i wr => ∃ k : Nat, k + c = m ∧ i = .int .i64 k ∧ RowsV wr l (overP rs (ps.take k)) ∧ Below w.heap.size w wr)
  case atStart => exact ⟨0, by omega, rfl, R1.out, B1.out⟩
  case round =>
    obtain ⟨k, hk, rfl, hR, hB⟩ := hrel
    obtain ⟨wo, hwo⟩ : ∃ x, x = wr := ⟨_, rfl⟩
    subst hwo
    obtain ⟨go, hgo⟩ : ∃ x, x = gk := ⟨_, rfl⟩
    subst hgo
    have A := Lib.hid (show Below w.heap.size w wo ∧ k + go = m from ⟨hB, hk⟩)
    have R := Lib.hid hR
    clear hB hR R1 B1
    by_cases hlt : k < m
    · obtain ⟨s, hs⟩ : ∃ s, ss[k]? = some s := ⟨_, List.getElem?_eq_getElem (by rw [LN.out.1]; exact hlt)⟩
      obtain ⟨p, hp⟩ : ∃ p, ps[k]? = some p := ⟨_, List.getElem?_eq_getElem (by rw [LN.out.2.1]; exact hlt)⟩
      obtain ⟨b, off, ha⟩ := SU.out.addr (by rw [LN.out.1]; omega)
      subst ha
      have hW := SP.out k s p hs hp
      obtain ⟨a2, c2, e2, hl2, hm2⟩ := hW.1.lenform
      obtain ⟨n, hn⟩ : ∃ n, p.length = n := ⟨_, rfl⟩
      rw [hn] at e2 hl2
      have x0 := (SU.out.below A.out.1).cellAt hs (j := 0) (u := s.v) rfl
      rw [e2] at x0 hW
      simp only [show lPs.sz = 1 from rfl, Nat.mul_one, Nat.add_zero] at x0
      have W := Lib.hid (show WrV lPw wo (.slice a2 n c2) p from hW.below A.out.1)
      have PL := Lib.hid (show p.length = n ∧ n ≤ 100 from ⟨hn, by rw [← hn]; exact HP.out p (List.mem_of_getElem? hp)⟩)
      have T := Lib.hid (overP_next (l := rs) hp)
      have RL := Lib.hid (show (overP rs (ps.take k)).length ≤ 400 by
        have q1 := overP_len (ps.take k) rs (fun q hq => HP.out q (List.mem_of_mem_take hq))
        rw [List.length_take] at q1
        have q2 := LN.out
        omega)
      have j3 : (0 : Int) ≤ (k : Int) := by omega
      have j4 : (k : Int) < (m : Int) := by omega
      unfold maxLen at hm2
      clear hs hp hW e2 hn
      go_wp2
      go_loopg [0, 19] n (fun c l i wr => ∃ j : Nat, j + c = n ∧ i = .int .i64 j ∧ RowsV wr l (overW (overP rs (ps.take k)) (p.take j)) ∧ Below w.heap.size w wr ∧ Below wo.heap.size wo wr)
      case atStart => exact ⟨0, by omega, rfl, R.out, A.out.1, Below.refl _ _⟩
      case round =>
        obtain ⟨j, hj, rfl, hR, hB, hO⟩ := hrel
        have A2 := Lib.hid (show Below w.heap.size w wr ∧ j + gk = n ∧ Below wo.heap.size wo wr from ⟨hB, hj, hO⟩)
        have R2 := Lib.hid hR
        have RL2 := Lib.hid (show (overW (overP rs (ps.take k)) (p.take j)).length ≤ 1000 by
          have q1 := overW_len (p.take j) (overP rs (ps.take k))
          rw [List.length_take] at q1
          have q2 := PL.out
          have q3 := RL.out
          omega)
        clear hB hR hO
        by_cases hlt2 : j < n
        · obtain ⟨⟨x, y, g⟩, hx⟩ : ∃ x, p[j]? = some x := ⟨_, List.getElem?_eq_getElem (by rw [PL.out.1]; exact hlt2)⟩
          obtain ⟨b3, off3, ha3⟩ := W.out.1.addr (by rw [PL.out.1]; omega)
          subst ha3
          obtain ⟨x0, x1, x2⟩ := (W.out.below A2.out.2.2).cellsP hx
          have M := Lib.hid (W.out.2.at hx)
          have T2 := Lib.hid (overW_next (l := overP rs (ps.take k)) hx)
          simp only at x0 x1 x2
          have i3 : (0 : Int) ≤ (j : Int) := by omega
          have i4 : (j : Int) < (n : Int) := by omega
          have ba := alloc_below0 wr (.cells #[.string x, .string y, .bool g] 41)
          have BA := Lib.hid (A2.out.1.trans (ba.mono A2.out.1.size))
          have BO := Lib.hid (A2.out.2.2.trans (ba.mono A2.out.2.2.size))
          have RA := Lib.hid (RowsV.below ba R2.out)
          clear hx ba
          go_wp2_with fail
          refine (over16 _ _ x y g _ RA.out RL2.out M.out).mono ?_
          rintro ev w3 ⟨v3, rfl, hr, hs⟩
          have F := Lib.hid (show RowsV w3 v3 (overW (overP rs (ps.take k)) (p.take (j + 1))) ∧ Below w.heap.size w w3 ∧ Below wo.heap.size wo w3 from ⟨by rw [T2.out]; exact hr, BA.out.trans (hs.mono BA.out.size), BO.out.trans (hs.mono BO.out.size)⟩)
          clear hr hs x0 x1 x2
          go_wp2
          go_roundg (n - (j + 1))
          case measure => have := A2.out.2.1; omega
          case rel => exact ⟨j + 1, by omega, by go_num, F.out.1, F.out.2.1, F.out.2.2⟩
        · obtain rfl : n = j := by have := A2.out.2.1; omega
          have G := Lib.hid (show overW (overP rs (ps.take k)) (p.take n) = overP rs (ps.take (k + 1)) by rw [T.out, List.take_of_length_le (Nat.le_of_eq PL.out.1)])
          rw [G.out] at R2
          go_wp2
          go_roundg (m - (k + 1))
          case measure => have := A.out.2; omega
          case rel => exact ⟨k + 1, by omega, by go_num, R2.out, A2.out.1⟩
    · obtain rfl : m = k := by have := A.out.2; omega
      have G := Lib.hid (show overP rs (ps.take m) = overP rs ps by rw [List.take_of_length_le (Nat.le_of_eq LN.out.2.1)])
      rw [G.out] at R
      go_wp2
      go_ret
      exact ⟨_, rfl, R.out, A.out.1⟩
end Go.Proofs.Ytkbfhpgcjljbbaa
