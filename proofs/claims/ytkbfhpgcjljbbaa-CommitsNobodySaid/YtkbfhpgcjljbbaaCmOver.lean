/- The document's own Over, of one part (layer 16), by contract. -/
import Derived.Test.YtkbfhpgcjljbbaaCmRef
import Derived.Test.YtkbfhpgcjljbbaaRwPut
namespace Go.Proofs.Ytkbfhpgcjljbbaa
set_option linter.unusedVariables false
set_option linter.unusedSimpArgs false
open Go.RowKit

theorem over1_len (l : List Rw) (x : Wr) : (over1 l x).length ≤ l.length + 1 := by
  unfold over1
  split
  · have := dropR_len l x.1; omega
  · split
    · have h1 := dropR_len l x.1
      have h2 := put_len (x.1, x.2.1) l
      simp only at h2
      omega
    · omega
theorem overW_len : ∀ (xs : List Wr) (l : List Rw), (overW l xs).length ≤ l.length + xs.length
  | [], l => by simp [overW]
  | x :: xs, l => by
    have h1 := overW_len xs (over1 l x)
    have h2 := over1_len l x
    show (overW (over1 l x) xs).length ≤ _
    simp only [List.length_cons]; omega
theorem overW_next {l : List Rw} {xs : List Wr} {k : Nat} {x : Wr} (h : xs[k]? = some x) : overW l (xs.take (k + 1)) = over1 (overW l (xs.take k)) x := by
  rw [wtake_at1 h]; unfold overW; rw [List.foldl_append]; rfl
theorem over1_gone (l : List Rw) (x y : ByteArray) : over1 l (x, y, true) = dropR l x := rfl
theorem over1_put (l : List Rw) (x y : ByteArray) (h : fitB (x, y) = true) : over1 l (x, y, false) = putR l (x, y) := by unfold over1; simp only [h]; rfl
theorem over1_not (l : List Rw) (x y : ByteArray) (h : fitB (x, y) = false) : over1 l (x, y, false) = l := by unfold over1; simp only [h]; rfl
set_option maxRecDepth 100000 in
set_option maxHeartbeats 4000000 in
theorem refOver_any (v u : Value) (rs : List Rw) (xs : List Wr) (w : World) (hv : RowsV w v rs) (hu : WrV lDw w u xs) (h1 : rs.length ≤ 300) (h2 : xs.length ≤ 100) :
    Calls Try.prog 22 #[v, u] w fun ev w' => ∃ v', ev = .returned v' ∧ RowsV w' v' (overW rs xs) ∧ Below w.heap.size w w' := by
  obtain ⟨a, cap, rfl, hlc, hcm⟩ := hu.1.lenform
  obtain ⟨n, hn⟩ : ∃ n, xs.length = n := ⟨_, rfl⟩
  rw [hn] at hu hlc h2 ⊢
  have U := Lib.hid hu
  have V := Lib.hid hv
  have LN := Lib.hid (show xs.length = n ∧ rs.length ≤ 300 from ⟨hn, h1⟩)
  unfold maxLen at hcm
  clear hv hu hn h1
  go_enter Try.func22, Try.ntmps22
  go_wp2
  go_loopg [0, 5] n (fun c l i wr => ∃ k : Nat, k + c = n ∧ i = .int .i64 k ∧ RowsV wr l (overW rs (xs.take k)) ∧ Below w.heap.size w wr)
  case atStart => exact ⟨0, by omega, rfl, V.out, Below.refl _ _⟩
  case round =>
    obtain ⟨k, hk, rfl, hR, hB⟩ := hrel
    have A := Lib.hid (show Below w.heap.size w wr ∧ k + gk = n from ⟨hB, hk⟩)
    have R := Lib.hid hR
    have RL := Lib.hid (show (overW rs (xs.take k)).length ≤ 1000 by have h1 := overW_len (xs.take k) rs; have h2 := LN.out.2; rw [List.length_take] at h1; omega)
    clear hB hR
    by_cases hlt : k < n
    · obtain ⟨⟨x, y, g⟩, hx⟩ : ∃ x, xs[k]? = some x := ⟨_, List.getElem?_eq_getElem (by rw [LN.out.1]; exact hlt)⟩
      obtain ⟨b, off, ha⟩ := U.out.1.addr (by rw [LN.out.1]; omega)
      subst ha
      obtain ⟨x0, x1, x2⟩ := (U.out.below A.out.1).cells hx
      have M := Lib.hid (U.out.2.at hx)
      have T := Lib.hid (overW_next (l := rs) hx)
      simp only at x0 x1 x2
      have j3 : (0 : Int) ≤ (k : Int) := by omega
      have j4 : (k : Int) < (n : Int) := by omega
      clear hx
      cases g with
      | true =>
        go_wp2_with fail
        refine (refDrop_any _ _ x _ R.out M.out.1 RL.out).mono ?_
        rintro ev w2 ⟨v2, rfl, hr, hs⟩
        have F := Lib.hid (show RowsV w2 v2 (overW rs (xs.take (k + 1))) ∧ Below w.heap.size w w2 from ⟨by rw [T.out, over1_gone]; exact hr, A.out.1.trans (hs.mono A.out.1.size)⟩)
        clear hr hs x0 x1 x2
        go_wp2
        go_roundg (n - (k + 1))
        case measure => have := A.out.2; omega
        case rel => exact ⟨k + 1, by omega, by go_num, F.out.1, F.out.2⟩
      | false =>
        cases hfit : fitB (x, y) with
        | false =>
          have T2 := Lib.hid (show overW rs (xs.take (k + 1)) = overW rs (xs.take k) by rw [T.out, over1_not _ _ _ hfit])
          have H := Lib.hid hfit
          clear hfit
          go_wp2_with fail
          go_region_held3 (fun w' => w'.cell? ⟨b, off + k * 3, none⟩ = some (.string x) ∧ w'.cell? ⟨b, off + k * 3 + 1, none⟩ = some (.string y))
            (first | exact ⟨by assumption, by assumption⟩ | go_keep)
            (first
              | (go_at_call 37; (with_reducible refine (refFits_any (x, y) _ M.out.1 M.out.2).mono ?_); rintro e w3 ⟨rfl, hs⟩; rw [H.out]; have F := Lib.hid (A.out.1.drew.trans (hs.mono A.out.1.drew.size)); have R3 := Lib.hid (RowsV.below (w := World.drew _) hs R.out); have u0 := (hs.cell (p := ⟨b, off + k * 3, none⟩) (lt_of_cell x0)).trans x0; have u1 := (hs.cell (p := ⟨b, off + k * 3 + 1, none⟩) (lt_of_cell x1)).trans x1; clear hs))
          go_wp2
          go_roundg (n - (k + 1))
          case measure => have := A.out.2; omega
          case rel => exact ⟨k + 1, by omega, by go_num, by rw [T2.out]; exact R3.out, F.out⟩
        | true =>
          have T2 := Lib.hid (show overW rs (xs.take (k + 1)) = putR (overW rs (xs.take k)) (x, y) by rw [T.out, over1_put _ _ _ hfit])
          have H := Lib.hid hfit
          clear hfit
          go_wp2_with fail
          go_region_held3 (fun w' => w'.cell? ⟨b, off + k * 3, none⟩ = some (.string x) ∧ w'.cell? ⟨b, off + k * 3 + 1, none⟩ = some (.string y))
            (first | exact ⟨by assumption, by assumption⟩ | go_keep)
            (first
              | (go_at_call 37; (with_reducible refine (refFits_any (x, y) _ M.out.1 M.out.2).mono ?_); rintro e w3 ⟨rfl, hs⟩; rw [H.out]; have F := Lib.hid (A.out.1.drew.trans (hs.mono A.out.1.drew.size)); have R3 := Lib.hid (RowsV.below (w := World.drew _) hs R.out); have u0 := (hs.cell (p := ⟨b, off + k * 3, none⟩) (lt_of_cell x0)).trans x0; have u1 := (hs.cell (p := ⟨b, off + k * 3 + 1, none⟩) (lt_of_cell x1)).trans x1; clear hs))
          clear x0 x1 x2
          go_wp2_with fail
          go_region_held3 (fun w' => w'.cell? ⟨b, off + k * 3, none⟩ = some (.string x) ∧ w'.cell? ⟨b, off + k * 3 + 1, none⟩ = some (.string y))
            (first | exact ⟨by assumption, by assumption⟩ | go_keep)
            (first
              | (go_at_call 45; (with_reducible refine (refPut_any _ _ x y _ (RowsV.below (Below.refl _ _).drew R3.out) M.out.1 M.out.2 RL.out).mono ?_); rintro e w4 ⟨v4, rfl, hr, hs⟩; have F4 := Lib.hid (F.out.drew.trans (hs.mono F.out.drew.size)); have R4 := Lib.hid hr; have z0 := (hs.cell (p := ⟨b, off + k * 3, none⟩) (lt_of_cell u0)).trans u0; have z1 := (hs.cell (p := ⟨b, off + k * 3 + 1, none⟩) (lt_of_cell u1)).trans u1; clear hs hr))
          go_wp2
          go_roundg (n - (k + 1))
          case measure => have := A.out.2; omega
          case rel => exact ⟨k + 1, by omega, by go_num, by rw [T2.out]; exact R4.out, F4.out⟩
    · obtain rfl : n = k := by have := A.out.2; omega
      have G := Lib.hid (show overW rs (xs.take n) = overW rs xs by rw [List.take_of_length_le (Nat.le_of_eq LN.out.1)])
      rw [G.out] at R
      go_wp2
      go_ret
      exact ⟨_, rfl, R.out, A.out.1⟩
end Go.Proofs.Ytkbfhpgcjljbbaa
