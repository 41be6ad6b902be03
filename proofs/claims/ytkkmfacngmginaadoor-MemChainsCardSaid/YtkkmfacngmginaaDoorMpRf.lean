/- The document's own table: its used pages in memory; its New, find, why, by contracts. -/
import Derived.Test.YtkkmfacngmginaaDoorMm
import Derived.Test.YtkkmfacngmginaaDoorMpNew
namespace Go.Proofs.YtkkmfacngmginaaDoor
open Go.RowKit

theorem swapB_zero : swapB [some (0, 0), none] 0 (0, 0) = true := by decide
theorem swapL_zero : swapL [some (0, 0), none] 0 (0, 0) (1, 1) = [some (1, 1), none] := by decide
theorem swapB_one : swapB [some (1, 1), none] 0 (0, 0) = false := by decide
theorem swapL_one : swapL [some (1, 1), none] 0 (0, 0) (2, 1) = [some (1, 1), none] := by decide
open Go.RowKit

def mp_doVal (v x : Int) (r : Bool) (os og ns ng : Int) : Value := .agg #[.int .i64 v, .int .i64 x, .bool r, .int .i64 os, .int .i64 og, .int .i64 ns, .int .i64 ng]
structure mp_DoAt (w : World) (b : Nat) (v x : Int) (r : Bool) (os og ns ng : Int) : Prop where
  c0 : w.cell? ⟨b, 0, none⟩ = some (.int .i64 v)
  c1 : w.cell? ⟨b, 1, none⟩ = some (.int .i64 x)
  c2 : w.cell? ⟨b, 2, none⟩ = some (.bool r)
  c3 : w.cell? ⟨b, 3, none⟩ = some (.int .i64 os)
  c4 : w.cell? ⟨b, 4, none⟩ = some (.int .i64 og)
  c5 : w.cell? ⟨b, 5, none⟩ = some (.int .i64 ns)
  c6 : w.cell? ⟨b, 6, none⟩ = some (.int .i64 ng)
theorem mp_DoAt.step {w w' : World} {b : Nat} {v x : Int} {r : Bool} {os og ns ng : Int} (h : mp_DoAt w b v x r os og ns ng) (hs : Below w.heap.size w w') : mp_DoAt w' b v x r os og ns ng :=
  ⟨cell_step h.c0 hs, cell_step h.c1 hs, cell_step h.c2 hs, cell_step h.c3 hs, cell_step h.c4 hs, cell_step h.c5 hs, cell_step h.c6 hs⟩
theorem mp_DoAt.keep {w w' : World} {b : Nat} {v x : Int} {r : Bool} {os og ns ng : Int} (h : mp_DoAt w b v x r os og ns ng) {S : Nat → Prop} (hk : Kept S w w') (hn : ¬ S b) : mp_DoAt w' b v x r os og ns ng :=
  ⟨hk.cell hn h.c0, hk.cell hn h.c1, hk.cell hn h.c2, hk.cell hn h.c3, hk.cell hn h.c4, hk.cell hn h.c5, hk.cell hn h.c6⟩
/-- a block of a ref -/
structure RfAt (w : World) (b : Nat) (s g : Int) : Prop where
  c0 : w.cell? ⟨b, 0, none⟩ = some (.int .i64 s)
  c1 : w.cell? ⟨b, 1, none⟩ = some (.int .i64 g)
theorem RfAt.of {w : World} {b : Nat} {s g : Int} {T : TypeId} (h : w.heap[b]? = some (.cells #[.int .i64 s, .int .i64 g] T)) : RfAt w b s g := ⟨blk_cell h 0, blk_cell h 1⟩
theorem RfAt.new (w : World) (s g : Int) (T : TypeId) : RfAt (w.alloc (.cells #[.int .i64 s, .int .i64 g] T)) w.heap.size s g := RfAt.of (blk_new w _)
theorem RfAt.step {w w' : World} {b : Nat} {s g : Int} (h : RfAt w b s g) (hs : Below w.heap.size w w') : RfAt w' b s g := ⟨cell_step h.c0 hs, cell_step h.c1 hs⟩
theorem RfAt.keep {w w' : World} {b : Nat} {s g : Int} (h : RfAt w b s g) {S : Nat → Prop} (hk : Kept S w w') (hn : ¬ S b) : RfAt w' b s g := ⟨hk.cell hn h.c0, hk.cell hn h.c1⟩

open Go.RowKit

/-- a used page of the document's table: its number, its head -/
abbrev Up := Int × Int × Int
def lUp : Lay Up := ⟨147, 3, fun r => [.int .i64 r.1, .int .i64 r.2.1, .int .i64 r.2.2], fun _ => rfl, fun x u h => by simp at h; rcases h with rfl | rfl | rfl <;> rfl⟩
theorem upInfo : (Tryd.prog.info? 147).map (fun i => (i.zero, i.size, i.bytes)) = some (some (.agg #[.int .i64 0, .int .i64 0, .int .i64 0]), 3, 24) := by kernel_rfl
theorem lUp_known : lUp.known 24 := known_of upInfo rfl rfl
def refT (n : Int) (v : Value) : Value := .agg #[.int .i64 n, v]
def upAt (us : List Up) (x : Int) : Option Nat := us.findIdx? (fun u => u.1 == x)
def upIx (us : List Up) (x : Int) : Int := (upAt us x).elim (-1) (fun i => (i : Int))
/-- the document's pages are the table's -/
structure RefOk (us : List Up) (L : List Pg) : Prop where
  sound : ∀ u ∈ us, ∃ i : Nat, u.1 = i ∧ L[i]? = some (some u.2)
  full : ∀ (i : Nat) (r : Rf), L[i]? = some (some r) → ∃ u ∈ us, u.1 = (i : Int)
  apart : us.Pairwise (fun a b => a.1 ≠ b.1)
theorem RefOk.gone {us : List Up} {L : List Pg} (h : RefOk us L) {x : Int} (hx : codeT L x ≠ 0) : upAt us x = none := by
  unfold upAt
  rw [List.findIdx?_eq_none_iff]
  intro u hu
  obtain ⟨i, h1, h2⟩ := h.sound u hu
  rw [beq_eq_false_iff_ne]
  intro e
  rw [← e, h1, codeT_at h2] at hx
  exact hx rfl
theorem RefOk.here {us : List Up} {L : List Pg} (h : RefOk us L) {i : Nat} {r : Rf} (hi : L[i]? = some (some r)) : ∃ j, upAt us (i : Int) = Option.some j ∧ us[j]? = Option.some ((i : Int), r) := by
  obtain ⟨u, hu, he⟩ := h.full i r hi
  cases hf : upAt us (i : Int) with
  | none =>
    unfold upAt at hf
    rw [List.findIdx?_eq_none_iff] at hf
    have := hf u hu
    rw [he] at this
    simp at this
  | some j =>
    refine ⟨j, rfl, ?_⟩
    unfold upAt at hf
    rw [List.findIdx?_eq_some_iff_getElem] at hf
    obtain ⟨hj, h1, -⟩ := hf
    have h1 := beq_iff_eq.1 h1
    obtain ⟨i', h2, h3⟩ := h.sound us[j] (List.getElem_mem hj)
    have : i' = i := by rw [h1] at h2; omega
    subst this
    rw [hi] at h3
    have h4 : us[j].2 = r := (Option.some.inj (Option.some.inj h3)).symm
    rw [List.getElem?_eq_getElem hj]
    congr 1
    exact Prod.ext h1 h4
theorem pages0_none (n i : Nat) (r : Rf) : ¬ (pages0 n)[i]? = Option.some (Option.some r) := by
  unfold pages0
  rw [List.getElem?_replicate]
  by_cases hi : i < n
  · rw [if_pos hi]; simp
  · rw [if_neg hi]; simp
theorem RefOk.nil (n : Nat) : RefOk [] (pages0 n) := ⟨fun u h => (by cases h), fun i r h => absurd h (pages0_none n i r), List.Pairwise.nil⟩

/-! ### New -/
set_option maxRecDepth 100000 in
set_option maxHeartbeats 4000000 in
theorem mp_rf_new (n : Int) (w : World) : Calls Tryd.prog 61 #[.int .i64 n] w fun ev w' => ev = .returned (.tuple #[refT n (.slice none 0 0), .bool (decide (1 ≤ n ∧ n ≤ 256))]) ∧ Below w.heap.size w w' := by
  have BB := fun o => Lib.hid (alloc_below0 w o)
  unfold refT
  by_cases h1 : 1 ≤ n
  · by_cases h2 : n ≤ 256
    · rw [decide_eq_true (⟨h1, h2⟩ : 1 ≤ n ∧ n ≤ 256)]
      go_enter Tryd.func61, Tryd.ntmps61
      go_wp2
      refine bodyPost_ret (v := .tuple #[.agg #[.int .i64 n, .slice none 0 0], .bool true]) (results_cellT rfl _ _ w.heap.size [.int .i64 n, .slice none 0 0] _ (.bool true) rfl rfl (rng2 (blk_new w _)) Tryd.underlying85 rfl (by kernel_rfl)) rfl ⟨rfl, (BB _).out⟩
    · rw [decide_eq_false (fun h : 1 ≤ n ∧ n ≤ 256 => h2 h.2)]
      go_enter Tryd.func61, Tryd.ntmps61
      go_wp2
      refine bodyPost_ret (v := .tuple #[.agg #[.int .i64 n, .slice none 0 0], .bool false]) (results_cellT rfl _ _ w.heap.size [.int .i64 n, .slice none 0 0] _ (.bool false) rfl rfl (rng2 (blk_new w _)) Tryd.underlying85 rfl (by kernel_rfl)) rfl ⟨rfl, (BB _).out⟩
  · rw [decide_eq_false (fun h : 1 ≤ n ∧ n ≤ 256 => h1 h.1)]
    go_enter Tryd.func61, Tryd.ntmps61
    go_wp2
    refine bodyPost_ret (v := .tuple #[.agg #[.int .i64 n, .slice none 0 0], .bool false]) (results_cellT rfl _ _ w.heap.size [.int .i64 n, .slice none 0 0] _ (.bool false) rfl rfl (rng2 (blk_new w _)) Tryd.underlying85 rfl (by kernel_rfl)) rfl ⟨rfl, (BB _).out⟩
/-! ### find -/
set_option maxRecDepth 100000 in
set_option maxHeartbeats 4000000 in
theorem mp_rf_find (n : Int) (v : Value) (us : List Up) (x : Int) (w : World) (hv : SV lUp w v us) :
    Calls Tryd.prog 66 #[refT n v, .int .i64 x] w fun ev w' => ev = .returned (.int .i64 (upIx us x)) ∧ Below w.heap.size w w' := by
  obtain ⟨va, vc, rfl, hlc, hcm⟩ := hv.lenform
  obtain ⟨N, hN⟩ : ∃ N, us.length = N := ⟨_, rfl⟩
  have LN := Lib.hid hN
  unfold maxLen at hcm
  obtain ⟨w2, hw2⟩ : ∃ w2, w2 = w.alloc (.cells #[.int .i64 n, .slice va us.length vc] 85) := ⟨_, rfl⟩
  have b1 := alloc_below0 w (.cells #[.int .i64 n, .slice va us.length vc] 85)
  have B2 := Lib.hid (show Below w.heap.size w w2 by rw [hw2]; exact b1)
  have V := Lib.hid (show SV lUp w2 (.slice va us.length vc) us by rw [hw2]; exact hv.below b1)
  have a1 : w2.cell? ⟨w.heap.size, 1, none⟩ = some (.slice va us.length vc) := by rw [hw2, World.cell?_alloc_at _ _ _ _ rfl]; rfl
  rw [hN] at hw2 a1 V hlc ⊢
  have S := Lib.hid hw2
  clear hv hN hw2 b1
  unfold refT
  go_enter Tryd.func66, Tryd.ntmps66
  go_wp2
  rw [← S.out]
  go_loopg [5] N (fun r i wr => ∃ k : Nat, k + r = N ∧ i = .int .i64 k ∧ (∀ j u, j < k → us[j]? = some u → (u.1 == x) = false) ∧ wr = w2)
  case atStart => exact ⟨0, by omega, rfl, fun j u h => absurd h (by omega), rfl⟩
  case round =>
    obtain ⟨k, hk, rfl, hno, rfl⟩ := hrel
    have HK := Lib.hid hk
    have NO := Lib.hid hno
    clear hno
    by_cases hlt : k < N
    · obtain ⟨⟨u, s, g⟩, hx⟩ : ∃ d, us[k]? = some d := ⟨_, List.getElem?_eq_getElem (by rw [LN.out]; exact hlt)⟩
      obtain ⟨b, off, ha⟩ := V.out.addr (by rw [LN.out]; omega)
      subst ha
      have x0 := V.out.cellAt (j := 0) hx rfl
      simp only [lUp, Nat.add_zero] at x0
      have j3 : (0 : Int) ≤ (k : Int) := by omega
      have j4 : (k : Int) < (N : Int) := by omega
      have X := Lib.hid hx
      clear hx
      cases hux : (u == x) with
      | true =>
        have F := Lib.hid (show upIx us x = (k : Int) by
          have e : upAt us x = some k := by
            unfold upAt
            rw [List.findIdx?_eq_some_iff_getElem]
            have hkl := (List.getElem?_eq_some_iff.1 X.out).1
            have hke := (List.getElem?_eq_some_iff.1 X.out).2
            refine ⟨hkl, by rw [hke]; exact hux, fun j hj => ?_⟩
            have := NO.out j us[j] hj (List.getElem?_eq_getElem _)
            rw [this]; exact Bool.false_ne_true
          unfold upIx
          rw [e]; rfl)
        go_wp2
        go_ret
        exact ⟨by rw [F.out]; rfl, B2.out⟩
      | false =>
        have N2 := Lib.hid (show ∀ j u', j < k + 1 → us[j]? = some u' → (u'.1 == x) = false from fun j u' hj hu => by
          by_cases e : j = k
          · subst e
            rw [X.out] at hu
            rw [← Option.some.inj hu]; exact hux
          · exact NO.out j u' (by omega) hu)
        go_wp2
        go_roundg (N - (k + 1))
        case measure => have := HK.out; omega
        case rel => exact ⟨k + 1, by omega, by go_num, N2.out, rfl⟩
    · obtain rfl : k = N := by omega
      have F := Lib.hid (show upIx us x = -1 by
        have e : upAt us x = none := by
          unfold upAt
          rw [List.findIdx?_eq_none_iff]
          intro u hu
          obtain ⟨j, hj, rfl⟩ := List.getElem_of_mem hu
          exact NO.out j _ (by have := LN.out; omega) (List.getElem?_eq_getElem hj)
        unfold upIx
        rw [e]; rfl)
      go_wp2
      go_ret
      exact ⟨by rw [F.out]; rfl, B2.out⟩
/-! ### why -/
set_option maxRecDepth 100000 in
set_option maxHeartbeats 4000000 in
theorem rf_why (n : Nat) (v : Value) (us : List Up) (L : List Pg) (x : Int) (w : World) (hv : SV lUp w v us) (hr : RefOk us L) (hn : L.length = n) :
    Calls Tryd.prog 65 #[refT n v, .int .i64 x] w fun ev w' => ev = .returned (.int .i64 (codeT L x)) ∧ Below w.heap.size w w' := by
  obtain ⟨va, vc, rfl, hlc, hcm⟩ := hv.lenform
  obtain ⟨N, hN⟩ : ∃ N, us.length = N := ⟨_, rfl⟩
  obtain ⟨w2, hw2⟩ : ∃ w2, w2 = w.alloc (.cells #[.int .i64 n, .slice va us.length vc] 85) := ⟨_, rfl⟩
  have b1 := alloc_below0 w (.cells #[.int .i64 n, .slice va us.length vc] 85)
  have B2 := Lib.hid (show Below w.heap.size w w2 by rw [hw2]; exact b1)
  have V := Lib.hid (show SV lUp w2 (.slice va us.length vc) us by rw [hw2]; exact hv.below b1)
  have a0 : w2.cell? ⟨w.heap.size, 0, none⟩ = some (.int .i64 n) := by rw [hw2, World.cell?_alloc_at _ _ _ _ rfl]; rfl
  have a1 : w2.cell? ⟨w.heap.size, 1, none⟩ = some (.slice va us.length vc) := by rw [hw2, World.cell?_alloc_at _ _ _ _ rfl]; rfl
  rw [hN] at hw2 a1 V hlc ⊢
  have S := Lib.hid hw2
  have H := Lib.hid hr
  clear hv hN hw2 b1 hr
  unfold refT
  by_cases h1 : x < 0
  · have C := Lib.hid (show codeT L x = 1 by unfold codeT; rw [if_pos (.inl h1)])
    rw [C.out]
    go_enter Tryd.func65, Tryd.ntmps65
    go_wp2
    go_ret
    exact ⟨rfl, S.out ▸ B2.out⟩
  · by_cases h2 : (n : Int) ≤ x
    · have C := Lib.hid (show codeT L x = 1 by unfold codeT; rw [if_pos (.inr (by omega))])
      rw [C.out]
      go_enter Tryd.func65, Tryd.ntmps65
      go_wp2
      go_ret
      exact ⟨rfl, S.out ▸ B2.out⟩
    · go_enter Tryd.func65, Tryd.ntmps65
      go_wp2_with fail
      rw [← S.out]
      refine (mp_rf_find n _ us x _ V.out).mono ?_
      rintro ev w3 ⟨rfl, hs⟩
      have B3 := Lib.hid (B2.out.trans (hs.mono B2.out.size))
      clear hs
      rcases page_cases L x with ⟨-, hx⟩ | ⟨i, rfl, hg, hc⟩ | ⟨i, r, rfl, hg, hc, -⟩
      · omega
      · have hu := H.out.gone (x := (i : Int)) (by rw [hc]; decide)
        have U := Lib.hid (show upIx us i = -1 by unfold upIx; rw [hu]; rfl)
        have HC := Lib.hid hc
        rw [U.out]
        clear hu hg hc
        go_wp2
        go_ret
        exact ⟨by rw [HC.out]; rfl, B3.out⟩
      · obtain ⟨j, hu, -⟩ := H.out.here hg
        have U := Lib.hid (show upIx us i = (j : Int) by unfold upIx; rw [hu]; rfl)
        have HC := Lib.hid hc
        rw [U.out]
        have j1 : ¬ (j : Int) < 0 := by omega
        clear hu hg hc
        go_wp2
        go_ret
        exact ⟨by rw [HC.out]; rfl, B3.out⟩
end Go.Proofs.YtkkmfacngmginaaDoor
