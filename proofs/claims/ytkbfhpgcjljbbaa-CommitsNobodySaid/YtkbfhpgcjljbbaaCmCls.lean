/- Package commits' Clash, by contract (layer 16). -/
import Derived.Test.YtkbfhpgcjljbbaaCmInv
import Derived.Test.YtkbfhpgcjljbbaaB2Code
namespace Go.Proofs.Ytkbfhpgcjljbbaa
set_option linter.unusedVariables false
set_option linter.unusedSimpArgs false
open Go.RowKit

theorem any_take {α : Type} (f : α → Bool) {xs : List α} {k : Nat} {x : α} (h : xs[k]? = some x) : (xs.take (k + 1)).any f = ((xs.take k).any f || f x) := by
  obtain ⟨hk, e⟩ := List.getElem?_eq_some_iff.1 h
  rw [List.take_succ_eq_append_getElem hk, e]
  simp
theorem any_hit {α : Type} (f : α → Bool) {xs : List α} {k : Nat} {x : α} (h : xs[k]? = some x) (hx : f x = true) : xs.any f = true := by
  rw [List.any_eq_true]
  exact ⟨x, List.mem_of_getElem? h, hx⟩
set_option maxRecDepth 100000 in
set_option maxHeartbeats 4000000 in
theorem index16 (v : Value) (ks : List ByteArray) (key : ByteArray) (w : World) (hv : SV lStr w v ks) :
    Calls Try.prog 58 #[v, .string key] w fun ev w' => (∃ z : Int, ev = .returned (.int .i64 z) ∧ decide (0 ≤ z) = ks.any (fun k => eqB k key)) ∧ Below w.heap.size w w' := by
  obtain ⟨a, cap, rfl, hlc, hcm⟩ := hv.lenform
  obtain ⟨n, hn⟩ : ∃ n, ks.length = n := ⟨_, rfl⟩
  rw [hn] at hv hlc ⊢
  have V := Lib.hid hv
  have LN := Lib.hid hn
  unfold maxLen at hcm
  clear hv hn
  go_enter Try.func58, Try.ntmps58
  go_wp2
  go_loopg [8] n (fun c i wr => ∃ k : Nat, k + c = n ∧ i = .int .i64 k ∧ (ks.take k).any (fun k => eqB k key) = false ∧ Below w.heap.size w wr)
  case atStart => exact ⟨0, by omega, rfl, rfl, Below.refl _ _⟩
  case round =>
    obtain ⟨k, hk, rfl, hA, hB⟩ := hrel
    have A := Lib.hid (show Below w.heap.size w wr ∧ k + gk = n ∧ (ks.take k).any (fun k => eqB k key) = false from ⟨hB, hk, hA⟩)
    clear hB hA
    by_cases hlt : k < n
    · obtain ⟨x, hx⟩ : ∃ x, ks[k]? = some x := ⟨_, List.getElem?_eq_getElem (by rw [LN.out]; exact hlt)⟩
      obtain ⟨b, off, ha⟩ := V.out.addr (by rw [LN.out]; omega)
      subst ha
      have x0 := (V.out.below A.out.1).cellAt hx (j := 0) (u := .string x) rfl
      simp only [show lStr.sz = 1 from rfl, Nat.mul_one, Nat.add_zero] at x0
      have HX := Lib.hid hx
      have j3 : (0 : Int) ≤ (k : Int) := by omega
      have j4 : (k : Int) < (n : Int) := by omega
      clear hx
      cases he : eqB x key with
      | true =>
        have G := Lib.hid (any_hit (fun k => eqB k key) HX.out he)
        have hq : (key.toList == x.toList) = true := by
          have := (eqB_iff _ _).1 he
          rw [this]; exact beq_self_eq_true _
        clear he
        go_wp2
        go_ret
        exact ⟨⟨_, rfl, by rw [G.out]; simp⟩, A.out.1⟩
      | false =>
        have T := Lib.hid (show (ks.take (k + 1)).any (fun k => eqB k key) = false by rw [any_take _ HX.out, A.out.2.2, he]; rfl)
        have hq : (key.toList == x.toList) = false := by
          cases h : (key.toList == x.toList) with
          | false => rfl
          | true =>
            have e := (eqB_iff key x).1 h
            rw [e, eqB_self] at he
            cases he
        clear he
        go_wp2
        go_roundg (n - (k + 1))
        case measure => have := A.out.2.1; omega
        case rel => exact ⟨k + 1, by omega, by go_num, T.out, A.out.1⟩
    · obtain rfl : n = k := by have := A.out.2.1; omega
      have G := Lib.hid (show ks.any (fun k => eqB k key) = false by have := A.out.2.2; rw [List.take_of_length_le (Nat.le_of_eq LN.out)] at this; exact this)
      go_wp2
      go_ret
      exact ⟨⟨_, rfl, by rw [G.out]; rfl⟩, A.out.1⟩
set_option maxRecDepth 100000 in
set_option maxHeartbeats 4000000 in
theorem contains16 (v : Value) (ks : List ByteArray) (key : ByteArray) (w : World) (hv : SV lStr w v ks) :
    Calls Try.prog 46 #[v, .string key] w fun ev w' => ev = .returned (.bool (ks.any (fun k => eqB k key))) ∧ Below w.heap.size w w' := by
  have V := Lib.hid hv
  obtain ⟨a, cap, rfl, hlc, hcm⟩ := hv.lenform
  clear hv
  go_enter Try.func46, Try.ntmps46
  go_wp2_with fail
  refine (index16 _ ks key _ V.out).mono ?_
  rintro ev w1 ⟨⟨z, rfl, hz⟩, hs⟩
  have Z := Lib.hid hz
  have B := Lib.hid hs
  clear hz hs
  go_wp2
  go_ret
  exact ⟨by rw [← Z.out]; rfl, B.out⟩
def inS (key : ByteArray) (s : Sp) : Bool := inn s.1.data.toList s.2.1.data.toList s.2.2 key.data.toList
set_option maxRecDepth 100000 in
set_option maxHeartbeats 4000000 in
theorem inOne16 (v : Value) (ss : List Sp) (key : ByteArray) (w : World) (hv : SV lSp w v ss) :
    Calls Try.prog 47 #[v, .string key] w fun ev w' => ev = .returned (.bool (ss.any (inS key))) ∧ Below w.heap.size w w' := by
  obtain ⟨a, cap, rfl, hlc, hcm⟩ := hv.lenform
  obtain ⟨n, hn⟩ : ∃ n, ss.length = n := ⟨_, rfl⟩
  rw [hn] at hv hlc ⊢
  have V := Lib.hid hv
  have LN := Lib.hid hn
  unfold maxLen at hcm
  clear hv hn
  go_enter Try.func47, Try.ntmps47
  go_wp2
  go_loopg [9] n (fun c i wr => ∃ k : Nat, k + c = n ∧ i = .int .i64 k ∧ (ss.take k).any (inS key) = false ∧ Below w.heap.size w wr)
  case atStart => exact ⟨0, by omega, rfl, rfl, Below.refl _ _⟩
  case round =>
    obtain ⟨k, hk, rfl, hA, hB⟩ := hrel
    have A := Lib.hid (show Below w.heap.size w wr ∧ k + gk = n ∧ (ss.take k).any (inS key) = false from ⟨hB, hk, hA⟩)
    clear hB hA
    by_cases hlt : k < n
    · obtain ⟨⟨x, y, g⟩, hx⟩ : ∃ x, ss[k]? = some x := ⟨_, List.getElem?_eq_getElem (by rw [LN.out]; exact hlt)⟩
      obtain ⟨b, off, ha⟩ := V.out.addr (by rw [LN.out]; omega)
      subst ha
      have x0 := (V.out.below A.out.1).cellAt hx (j := 0) (u := .string x) rfl
      have x1 := (V.out.below A.out.1).cellAt hx (j := 1) (u := .string y) rfl
      have x2 := (V.out.below A.out.1).cellAt hx (j := 2) (u := .bool g) rfl
      simp only [show lSp.sz = 3 from rfl, Nat.add_zero] at x0 x1 x2
      have HX := Lib.hid hx
      have j3 : (0 : Int) ≤ (k : Int) := by omega
      have j4 : (k : Int) < (n : Int) := by omega
      have BA := Lib.hid (A.out.1.trans ((alloc_below0 wr (.cells #[.string x, .string y, .bool g] 53)).mono A.out.1.size))
      clear hx
      cases he : inS key (x, y, g) with
      | true =>
        have G := Lib.hid (any_hit (inS key) HX.out he)
        have H := Lib.hid (show inn x.data.toList y.data.toList g key.data.toList = true from he)
        clear he
        go_wp2_with fail
        refine (inside_any x y key g _).mono ?_
        rintro ev w2 ⟨rfl, rfl⟩
        rw [H.out]
        go_wp2
        go_ret
        exact ⟨by rw [G.out]; rfl, BA.out⟩
      | false =>
        have T := Lib.hid (show (ss.take (k + 1)).any (inS key) = false by rw [any_take _ HX.out, A.out.2.2, he]; rfl)
        have H := Lib.hid (show inn x.data.toList y.data.toList g key.data.toList = false from he)
        clear he
        go_wp2_with fail
        refine (inside_any x y key g _).mono ?_
        rintro ev w2 ⟨rfl, rfl⟩
        rw [H.out]
        go_wp2
        go_roundg (n - (k + 1))
        case measure => have := A.out.2.1; omega
        case rel => exact ⟨k + 1, by omega, by go_num, T.out, BA.out⟩
    · obtain rfl : n = k := by have := A.out.2.1; omega
      have G := Lib.hid (show ss.any (inS key) = false by have := A.out.2.2; rw [List.take_of_length_le (Nat.le_of_eq LN.out)] at this; exact this)
      go_wp2
      go_ret
      exact ⟨by rw [G.out]; rfl, A.out.1⟩
def hitW (ks : List ByteArray) (ss : List Sp) (x : Wr) : Bool := ks.any (fun k => eqB k x.1) || ss.any (inS x.1)
set_option maxRecDepth 100000 in
set_option maxHeartbeats 4000000 in
theorem clash16 (kv sv v : Value) (ks : List ByteArray) (ss : List Sp) (xs : List Wr) (w : World) (hk : SV lStr w kv ks) (hs : SV lSp w sv ss) (hv : WrV lPw w v xs) :
    Calls Try.prog 25 #[kv, sv, v] w fun ev w' => ev = .returned (.bool (clashW ks ss xs)) ∧ Below w.heap.size w w' := by
  show Calls _ _ _ _ fun ev w' => ev = .returned (.bool (xs.any (hitW ks ss))) ∧ Below w.heap.size w w'
  obtain ⟨ka, kc, rfl, -, -⟩ := hk.lenform
  obtain ⟨sa, sc, rfl, -, -⟩ := hs.lenform
  obtain ⟨a, cap, rfl, hlc, hcm⟩ := hv.1.lenform
  obtain ⟨n, hn⟩ : ∃ n, xs.length = n := ⟨_, rfl⟩
  obtain ⟨kn, hkn⟩ : ∃ n, ks.length = n := ⟨_, rfl⟩
  obtain ⟨sn, hsn⟩ : ∃ n, ss.length = n := ⟨_, rfl⟩
  rw [hn] at hv hlc ⊢
  rw [hkn] at hk ⊢
  rw [hsn] at hs ⊢
  have V := Lib.hid hv
  have KV := Lib.hid hk
  have SP := Lib.hid hs
  have LN := Lib.hid hn
  unfold maxLen at hcm
  clear hv hn hk hs hkn hsn
  go_enter Try.func25, Try.ntmps25
  go_wp2
  go_loopg [11] n (fun c i wr => ∃ k : Nat, k + c = n ∧ i = .int .i64 k ∧ (xs.take k).any (hitW ks ss) = false ∧ Below w.heap.size w wr)
  case atStart => exact ⟨0, by omega, rfl, rfl, Below.refl _ _⟩
  case round =>
    obtain ⟨k, hk, rfl, hA, hB⟩ := hrel
    have A := Lib.hid (show Below w.heap.size w wr ∧ k + gk = n ∧ (xs.take k).any (hitW ks ss) = false from ⟨hB, hk, hA⟩)
    clear hB hA
    by_cases hlt : k < n
    · obtain ⟨⟨x, y, g⟩, hx⟩ : ∃ x, xs[k]? = some x := ⟨_, List.getElem?_eq_getElem (by rw [LN.out]; exact hlt)⟩
      obtain ⟨b, off, ha⟩ := V.out.1.addr (by rw [LN.out]; omega)
      subst ha
      obtain ⟨x0, x1, x2⟩ := (V.out.below A.out.1).cellsP hx
      have HX := Lib.hid hx
      simp only at x0 x1 x2
      have j3 : (0 : Int) ≤ (k : Int) := by omega
      have j4 : (k : Int) < (n : Int) := by omega
      have ba := alloc_below0 wr (.cells #[.string x, .string y, .bool g] 41)
      have BA := Lib.hid (A.out.1.trans (ba.mono A.out.1.size))
      have kb := blk_new wr (.cells #[.string x, .string y, .bool g] 41)
      have KB := Lib.hid kb
      clear hx ba kb
      cases h1 : ks.any (fun k => eqB k x) with
      | true =>
        have G := Lib.hid (any_hit (hitW ks ss) HX.out (show (ks.any (fun k => eqB k x) || ss.any (inS x)) = true by rw [h1]; rfl))
        have H1 := Lib.hid h1
        clear h1
        go_wp2_with fail
        refine (contains16 _ ks x _ (KV.out.below BA.out)).mono ?_
        rintro ev w2 ⟨rfl, hs⟩
        rw [H1.out]
        have B2 := Lib.hid (BA.out.trans (hs.mono BA.out.size))
        clear hs
        go_wp2
        go_ret
        exact ⟨by rw [G.out]; rfl, B2.out⟩
      | false =>
        have H1 := Lib.hid h1
        cases h2 : ss.any (inS x) with
        | true =>
          have G := Lib.hid (any_hit (hitW ks ss) HX.out (show (ks.any (fun k => eqB k x) || ss.any (inS x)) = true by rw [h2]; simp))
          have H2 := Lib.hid h2
          clear h1 h2
          go_wp2_with fail
          refine (contains16 _ ks x _ (KV.out.below BA.out)).mono ?_
          rintro ev w2 ⟨rfl, hs⟩
          rw [H1.out]
          have B2 := Lib.hid (BA.out.trans (hs.mono BA.out.size))
          have y0 : w2.cell? ⟨wr.heap.size, 0, none⟩ = some (.string x) := by rw [blk_cell (blk_step KB.out hs)]; rfl
          clear hs
          go_wp2_with fail
          refine (inOne16 _ ss x _ (SP.out.below B2.out)).mono ?_
          rintro ev w3 ⟨rfl, hs⟩
          rw [H2.out]
          have B3 := Lib.hid (B2.out.trans (hs.mono B2.out.size))
          clear hs
          go_wp2
          go_ret
          exact ⟨by rw [G.out]; rfl, B3.out⟩
        | false =>
          have T := Lib.hid (show (xs.take (k + 1)).any (hitW ks ss) = false by
            rw [any_take _ HX.out, A.out.2.2]
            show (false || (ks.any (fun k => eqB k x) || ss.any (inS x))) = false
            rw [h1, h2]; rfl)
          have H2 := Lib.hid h2
          clear h1 h2
          go_wp2_with fail
          refine (contains16 _ ks x _ (KV.out.below BA.out)).mono ?_
          rintro ev w2 ⟨rfl, hs⟩
          rw [H1.out]
          have B2 := Lib.hid (BA.out.trans (hs.mono BA.out.size))
          have y0 : w2.cell? ⟨wr.heap.size, 0, none⟩ = some (.string x) := by rw [blk_cell (blk_step KB.out hs)]; rfl
          clear hs
          go_wp2_with fail
          refine (inOne16 _ ss x _ (SP.out.below B2.out)).mono ?_
          rintro ev w3 ⟨rfl, hs⟩
          rw [H2.out]
          have B3 := Lib.hid (B2.out.trans (hs.mono B2.out.size))
          clear hs
          go_wp2
          go_roundg (n - (k + 1))
          case measure => have := A.out.2.1; omega
          case rel => exact ⟨k + 1, by omega, by go_num, T.out, B3.out⟩
    · obtain rfl : n = k := by have := A.out.2.1; omega
      have G := Lib.hid (show xs.any (hitW ks ss) = false by have := A.out.2.2; rw [List.take_of_length_le (Nat.le_of_eq LN.out)] at this; exact this)
      go_wp2
      go_ret
      exact ⟨by rw [G.out]; rfl, A.out.1⟩
end Go.Proofs.Ytkbfhpgcjljbbaa
