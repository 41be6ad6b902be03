/- The document's own table: its Swap, by a contract. -/
import Derived.Test.YtejmdmaebkdjoaaGreatDoorMm
import Derived.Test.YtejmdmaebkdjoaaGreatDoorMpNew
import Derived.Test.YtejmdmaebkdjoaaGreatDoorArLast
namespace Go.Proofs.YtejmdmaebkdjoaaGreatDoor
set_option linter.unusedVariables false
set_option linter.unusedSimpArgs false
set_option maxRecDepth 100000
set_option maxHeartbeats 4000000
open Go.RowKit
open Go.RowKit
open Go.RowKit
abbrev Up := Int × Int × Int
def lUp : Lay Up := ⟨161, 3, fun r => [.int .i64 r.1, .int .i64 r.2.1, .int .i64 r.2.2], fun _ => rfl, fun x u h => by simp at h; rcases h with rfl | rfl | rfl <;> rfl⟩
theorem upInfo : (Tryz.prog.info? 161).map (fun i => (i.zero, i.size, i.bytes)) = some (some (.agg #[.int .i64 0, .int .i64 0, .int .i64 0]), 3, 24) := by kernel_rfl
theorem lUp_known : lUp.known 24 := known_of upInfo rfl rfl
def refT (n : Int) (v : Value) : Value := .agg #[.int .i64 n, v]
def upAt (us : List Up) (x : Int) : Option Nat := us.findIdx? (fun u => u.1 == x)
def upIx (us : List Up) (x : Int) : Int := (upAt us x).elim (-1) (fun i => (i : Int))
structure RefOk (us : List Up) (L : List Pg) : Prop where
 sound : ∀ u ∈ us, ∃ i : Nat, u.1 = i ∧ L[i]? = some (some u.2)
 full : ∀ (i : Nat) (r : Rf), L[i]? = some (some r) → ∃ u ∈ us, u.1 = (i : Int)
 apart : us.Pairwise (fun a b => a.1 ≠ b.1)
theorem RefOk.gone {us : List Up} {L : List Pg} (h : RefOk us L) {x : Int} (hx : codeT L x ≠ 0) : upAt us x = none := by
 unfold upAt
 rw [List.findIdx?_eq_none_iff]
 intro u hu
 obtain ⟨i, h1, h2⟩ := h.sound u hu
 rw [beq_eq_false_iff_ne]
 intro e
 rw [← e, h1, codeT_at h2] at hx
 exact hx rfl
theorem RefOk.here {us : List Up} {L : List Pg} (h : RefOk us L) {i : Nat} {r : Rf} (hi : L[i]? = some (some r)) : ∃ j, upAt us (i : Int) = Option.some j ∧ us[j]? = Option.some ((i : Int), r) := by
 obtain ⟨u, hu, he⟩ := h.full i r hi
 cases hf : upAt us (i : Int) with
 | none =>
  unfold upAt at hf
  rw [List.findIdx?_eq_none_iff] at hf
  have := hf u hu
  rw [he] at this
  simp at this
 | some j =>
  refine ⟨j, rfl, ?_⟩
  unfold upAt at hf
  rw [List.findIdx?_eq_some_iff_getElem] at hf
  obtain ⟨hj, h1, -⟩ := hf
  have h1 := beq_iff_eq.1 h1
  obtain ⟨i', h2, h3⟩ := h.sound us[j] (List.getElem_mem hj)
  have : i' = i := by rw [h1] at h2; omega
  subst this
  rw [hi] at h3
  have h4 : us[j].2 = r := (Option.some.inj (Option.some.inj h3)).symm
  rw [List.getElem?_eq_getElem hj]
  congr 1
  exact Prod.ext h1 h4
theorem pages0_none (n i : Nat) (r : Rf) : ¬ (pages0 n)[i]? = Option.some (Option.some r) := by
 unfold pages0
 rw [List.getElem?_replicate]
 by_cases hi : i < n
 ·rw [if_pos hi]; simp
 ·rw [if_neg hi]; simp
theorem RefOk.nil (n : Nat) : RefOk [] (pages0 n) := ⟨fun u h => (by cases h), fun i r h => absurd h (pages0_none n i r), List.Pairwise.nil⟩
/-! ### New -/
theorem mp_rf_new (n : Int) (w : World) : Calls Tryz.prog 30 #[.int .i64 n] w fun ev w' => ev = .returned (.tuple #[refT n (.slice none 0 0), .bool (decide (1 ≤ n ∧ n ≤ 256))]) ∧ Below w.heap.size w w' := by
 have BB := fun o => Lib.hid (alloc_below0 w o)
 unfold refT
 by_cases h1 : 1 ≤ n
 ·by_cases h2 : n ≤ 256
  ·rw [decide_eq_true (⟨h1, h2⟩ : 1 ≤ n ∧ n ≤ 256)]
   go_enter Tryz.func30, Tryz.ntmps30
   go_wp2
   refine bodyPost_ret (v := .tuple #[.agg #[.int .i64 n, .slice none 0 0], .bool true]) (results_cellT rfl _ _ w.heap.size [.int .i64 n, .slice none 0 0] _ (.bool true) rfl rfl (rng2 (blk_new w _)) Tryz.underlying38 rfl (by kernel_rfl)) rfl ⟨rfl, (BB _).out⟩
  ·rw [decide_eq_false (fun h : 1 ≤ n ∧ n ≤ 256 => h2 h.2)]
   go_enter Tryz.func30, Tryz.ntmps30
   go_wp2
   refine bodyPost_ret (v := .tuple #[.agg #[.int .i64 n, .slice none 0 0], .bool false]) (results_cellT rfl _ _ w.heap.size [.int .i64 n, .slice none 0 0] _ (.bool false) rfl rfl (rng2 (blk_new w _)) Tryz.underlying38 rfl (by kernel_rfl)) rfl ⟨rfl, (BB _).out⟩
 ·rw [decide_eq_false (fun h : 1 ≤ n ∧ n ≤ 256 => h1 h.1)]
  go_enter Tryz.func30, Tryz.ntmps30
  go_wp2
  refine bodyPost_ret (v := .tuple #[.agg #[.int .i64 n, .slice none 0 0], .bool false]) (results_cellT rfl _ _ w.heap.size [.int .i64 n, .slice none 0 0] _ (.bool false) rfl rfl (rng2 (blk_new w _)) Tryz.underlying38 rfl (by kernel_rfl)) rfl ⟨rfl, (BB _).out⟩
/-! ### find -/
theorem mp_rf_find (n : Int) (v : Value) (us : List Up) (x : Int) (w : World) (hv : SV lUp w v us) :
  Calls Tryz.prog 73 #[refT n v, .int .i64 x] w fun ev w' => ev = .returned (.int .i64 (upIx us x)) ∧ Below w.heap.size w w' := by
 obtain ⟨va, vc, rfl, hlc, hcm⟩ := hv.lenform
 obtain ⟨N, hN⟩ : ∃ N, us.length = N := ⟨_, rfl⟩
 have LN := Lib.hid hN
 unfold maxLen at hcm
 obtain ⟨w2, hw2⟩ : ∃ w2, w2 = w.alloc (.cells #[.int .i64 n, .slice va us.length vc] 38) := ⟨_, rfl⟩
 have b1 := alloc_below0 w (.cells #[.int .i64 n, .slice va us.length vc] 38)
 have B2 := Lib.hid (show Below w.heap.size w w2 by rw [hw2]; exact b1)
 have V := Lib.hid (show SV lUp w2 (.slice va us.length vc) us by rw [hw2]; exact hv.below b1)
 have a1 : w2.cell? ⟨w.heap.size, 1, none⟩ = some (.slice va us.length vc) := by rw [hw2, World.cell?_alloc_at _ _ _ _ rfl]; rfl
 rw [hN] at hw2 a1 V hlc ⊢
 have S := Lib.hid hw2
 clear hv hN hw2 b1
 unfold refT
 go_enter Tryz.func73, Tryz.ntmps73
 go_wp2
 rw [← S.out]
 go_loopg [5] N (fun r i wr => ∃ k : Nat, k + r = N ∧ i = .int .i64 k ∧ (∀ j u, j < k → us[j]? = some u → (u.1 == x) = false) ∧ wr = w2)
 case atStart => exact ⟨0, by omega, rfl, fun j u h => absurd h (by omega), rfl⟩
 case round =>
  obtain ⟨k, hk, rfl, hno, rfl⟩ := hrel
  have HK := Lib.hid hk
  have NO := Lib.hid hno
  clear hno
  by_cases hlt : k < N
  ·obtain ⟨⟨u, s, g⟩, hx⟩ : ∃ d, us[k]? = some d := ⟨_, List.getElem?_eq_getElem (by rw [LN.out]; exact hlt)⟩
   obtain ⟨b, off, ha⟩ := V.out.addr (by rw [LN.out]; omega)
   subst ha
   have x0 := V.out.cellAt (j := 0) hx rfl
   simp only [lUp, Nat.add_zero] at x0
   have j3 : (0 : Int) ≤ (k : Int) := by omega
   have j4 : (k : Int) < (N : Int) := by omega
   have X := Lib.hid hx
   clear hx
   cases hux : (u == x) with
   | true =>
    have F := Lib.hid (show upIx us x = (k : Int) by
     have e : upAt us x = some k := by
      unfold upAt
      rw [List.findIdx?_eq_some_iff_getElem]
      have hkl := (List.getElem?_eq_some_iff.1 X.out).1
      have hke := (List.getElem?_eq_some_iff.1 X.out).2
      refine ⟨hkl, by rw [hke]; exact hux, fun j hj => ?_⟩
      have := NO.out j us[j] hj (List.getElem?_eq_getElem _)
      rw [this]; exact Bool.false_ne_true
     unfold upIx
     rw [e]; rfl)
    go_wp2
    go_ret
    exact ⟨by rw [F.out]; rfl, B2.out⟩
   | false =>
    have N2 := Lib.hid (show ∀ j u', j < k + 1 → us[j]? = some u' → (u'.1 == x) = false from fun j u' hj hu => by
     by_cases e : j = k
     ·subst e
      rw [X.out] at hu
      rw [← Option.some.inj hu]; exact hux
     ·exact NO.out j u' (by omega) hu)
    go_wp2
    go_roundg (N - (k + 1))
    case measure => have := HK.out; omega
    case rel => exact ⟨k + 1, by omega, by go_num, N2.out, rfl⟩
  ·obtain rfl : k = N := by omega
   have F := Lib.hid (show upIx us x = -1 by
    have e : upAt us x = none := by
     unfold upAt
     rw [List.findIdx?_eq_none_iff]
     intro u hu
     obtain ⟨j, hj, rfl⟩ := List.getElem_of_mem hu
     exact NO.out j _ (by have := LN.out; omega) (List.getElem?_eq_getElem hj)
    unfold upIx
    rw [e]; rfl)
   go_wp2
   go_ret
   exact ⟨by rw [F.out]; rfl, B2.out⟩
/-! ### why -/
theorem rf_why (n : Nat) (v : Value) (us : List Up) (L : List Pg) (x : Int) (w : World) (hv : SV lUp w v us) (hr : RefOk us L) (hn : L.length = n) :
  Calls Tryz.prog 74 #[refT n v, .int .i64 x] w fun ev w' => ev = .returned (.int .i64 (codeT L x)) ∧ Below w.heap.size w w' := by
 obtain ⟨va, vc, rfl, hlc, hcm⟩ := hv.lenform
 obtain ⟨N, hN⟩ : ∃ N, us.length = N := ⟨_, rfl⟩
 obtain ⟨w2, hw2⟩ : ∃ w2, w2 = w.alloc (.cells #[.int .i64 n, .slice va us.length vc] 38) := ⟨_, rfl⟩
 have b1 := alloc_below0 w (.cells #[.int .i64 n, .slice va us.length vc] 38)
 have B2 := Lib.hid (show Below w.heap.size w w2 by rw [hw2]; exact b1)
 have V := Lib.hid (show SV lUp w2 (.slice va us.length vc) us by rw [hw2]; exact hv.below b1)
 have a0 : w2.cell? ⟨w.heap.size, 0, none⟩ = some (.int .i64 n) := by rw [hw2, World.cell?_alloc_at _ _ _ _ rfl]; rfl
 have a1 : w2.cell? ⟨w.heap.size, 1, none⟩ = some (.slice va us.length vc) := by rw [hw2, World.cell?_alloc_at _ _ _ _ rfl]; rfl
 rw [hN] at hw2 a1 V hlc ⊢
 have S := Lib.hid hw2
 have H := Lib.hid hr
 clear hv hN hw2 b1 hr
 unfold refT
 by_cases h1 : x < 0
 ·have C := Lib.hid (show codeT L x = 1 by unfold codeT; rw [if_pos (.inl h1)])
  rw [C.out]
  go_enter Tryz.func74, Tryz.ntmps74
  go_wp2
  go_ret
  exact ⟨rfl, S.out ▸ B2.out⟩
 ·by_cases h2 : (n : Int) ≤ x
  ·have C := Lib.hid (show codeT L x = 1 by unfold codeT; rw [if_pos (.inr (by omega))])
   rw [C.out]
   go_enter Tryz.func74, Tryz.ntmps74
   go_wp2
   go_ret
   exact ⟨rfl, S.out ▸ B2.out⟩
  ·go_enter Tryz.func74, Tryz.ntmps74
   go_wp2_with fail
   rw [← S.out]
   refine (mp_rf_find n _ us x _ V.out).mono ?_
   rintro ev w3 ⟨rfl, hs⟩
   have B3 := Lib.hid (B2.out.trans (hs.mono B2.out.size))
   clear hs
   rcases page_cases L x with ⟨-, hx⟩ | ⟨i, rfl, hg, hc⟩ | ⟨i, r, rfl, hg, hc, -⟩
   ·omega
   ·have hu := H.out.gone (x := (i : Int)) (by rw [hc]; decide)
    have U := Lib.hid (show upIx us i = -1 by unfold upIx; rw [hu]; rfl)
    have HC := Lib.hid hc
    rw [U.out]
    clear hu hg hc
    go_wp2
    go_ret
    exact ⟨by rw [HC.out]; rfl, B3.out⟩
   ·obtain ⟨j, hu, -⟩ := H.out.here hg
    have U := Lib.hid (show upIx us i = (j : Int) by unfold upIx; rw [hu]; rfl)
    have HC := Lib.hid hc
    rw [U.out]
    have j1 : ¬ (j : Int) < 0 := by omega
    clear hu hg hc
    go_wp2
    go_ret
    exact ⟨by rw [HC.out]; rfl, B3.out⟩
open Go.RowKit
theorem rf_head (n : Nat) (v : Value) (us : List Up) (L : List Pg) (x : Int) (w : World) (hv : SV lUp w v us) (hr : RefOk us L) (hn : L.length = n) :
  Calls Tryz.prog 89 #[refT n v, .int .i64 x] w fun ev w' => ev = .returned (.tuple #[refV (headT L x).1 (headT L x).2, .int .i64 (codeT L x)]) ∧ Below w.heap.size w w' := by
 obtain ⟨va, vc, rfl, hlc, hcm⟩ := hv.lenform
 obtain ⟨N, hN⟩ : ∃ N, us.length = N := ⟨_, rfl⟩
 have H := Lib.hid hr
 have LL := Lib.hid (show us.length = N ∧ L.length = n from ⟨hN, hn⟩)
 rw [hN] at hlc hv ⊢
 obtain ⟨W, hW⟩ : ∃ W, W = (w.alloc (.cells #[.int .i64 n, .slice va N vc] 38)).alloc (.cells #[.int .i64 0, .int .i64 0] 48) := ⟨_, rfl⟩
 have z1 : (w.alloc (.cells #[.int .i64 n, .slice va N vc] 38)).heap.size = w.heap.size + 1 := by simp
 have b1 := alloc_below0 w (.cells #[.int .i64 n, .slice va N vc] 38)
 have b2 := alloc_below0 (w.alloc (.cells #[.int .i64 n, .slice va N vc] 38)) (.cells #[.int .i64 0, .int .i64 0] 48)
 have B0 := Lib.hid (show Below w.heap.size w W by rw [hW]; exact b1.trans (b2.mono b1.size))
 have K0 := Lib.hid (show W.heap[w.heap.size]? = some (.cells #[.int .i64 n, .slice va N vc] 38 (0, 0)) by rw [hW]; exact blk_step (blk_new w _) b2)
 have K1 := Lib.hid (show W.heap[w.heap.size + 1]? = some (.cells #[.int .i64 0, .int .i64 0] 48 (0, 0)) by rw [hW, ← z1]; exact blk_new _ _)
 have V := Lib.hid (hv.below B0.out)
 have V00 := Lib.hid hv
 clear hv hr hN hn b1 b2 z1
 unfold refT
 go_enter Tryz.func89, Tryz.ntmps89
 go_wp2_with fail
 rw [← hW]
 refine (rf_why n _ us L x _ V.out H.out LL.out.2).mono ?_
 rintro ev w1 ⟨rfl, hs⟩
 have B1 := Lib.hid (B0.out.trans (hs.mono B0.out.size))
 have K2 := Lib.hid (blk_step K0.out hs)
 have K3 := Lib.hid (blk_step K1.out hs)
 have V1 := Lib.hid (V.out.below hs)
 have t0 : w1.cell? ⟨w.heap.size, 0, none⟩ = some (.int .i64 n) := blk_cell K2.out 0
 have t1 : w1.cell? ⟨w.heap.size, 1, none⟩ = some (.slice va N vc) := blk_cell K2.out 1
 clear hs hW
 by_cases hc : codeT L x = 0
 ·have HC := Lib.hid hc
  obtain ⟨i, s, g, rfl, hg, hh⟩ : ∃ (i : Nat) (s g : Int), x = i ∧ L[i]? = some (some (s, g)) ∧ headT L x = (s, g) := by
   rcases page_cases L x with ⟨h, -⟩ | ⟨i, -, -, h⟩ | ⟨i, ⟨s, g⟩, h1, h2, -, h4⟩
   ·rw [hc] at h; cases h
   ·rw [hc] at h; cases h
   ·exact ⟨i, s, g, h1, h2, h4⟩
  obtain ⟨j, hu, hj⟩ := H.out.here hg
  have HH := Lib.hid hh
  have U := Lib.hid (show upIx us i = (j : Int) by unfold upIx; rw [hu]; rfl)
  have HJ := Lib.hid hj
  have hlt : j < N := by rw [← LL.out.1]; exact (List.getElem?_eq_some_iff.1 hj).1
  obtain ⟨b, off, ha⟩ := V1.out.addr (by rw [LL.out.1]; omega)
  subst ha
  have nb : ¬ b = w.heap.size + 1 := by have := lt_of_cell (V00.out.cellAt (j := 0) hj rfl); omega
  have nc : ¬ w.heap.size + 1 = b := fun e => nb e.symm
  have x1 := V1.out.cellAt (j := 1) hj rfl
  have x2 := V1.out.cellAt (j := 2) hj rfl
  simp only [lUp] at x1 x2
  have j3 : (0 : Int) ≤ (j : Int) := by omega
  have j4 : (j : Int) < (N : Int) := by omega
  rw [hc]
  clear hc hg hh hu hj hlt
  go_wp2_with fail
  have fc := fun w h => mp_rf_find n (.slice (some ⟨b, off, none⟩) N vc) us i w h
  unfold refT at fc
  go_region_held3 (fun w' => w'.cell? ⟨w.heap.size, 0, none⟩ = some (.int .i64 n) ∧ w'.cell? ⟨w.heap.size, 1, none⟩ = some (.slice (some ⟨b, off, none⟩) N vc) ∧ w'.cell? ⟨b, off + j * 3 + 1, none⟩ = some (.int .i64 s) ∧ w'.cell? ⟨b, off + j * 3 + 1 + 1, none⟩ = some (.int .i64 g)) (first | exact ⟨by assumption, by assumption, by assumption, by assumption⟩ | go_keep)
   (first
    | (go_at_call 73; (with_reducible refine (fc _ ?_).mono ?_); exact V1.out.below (Below.refl _ _).drew; rintro e w5 ⟨rfl, hs⟩; have B5 := Lib.hid ((B1.out.drew).trans (hs.mono B1.out.size)); have V5 := (V1.out.below (Below.refl _ _).drew).below hs; have y1 := V5.cellAt (j := 1) HJ.out rfl; have y2 := V5.cellAt (j := 2) HJ.out rfl; simp only [lUp] at y1 y2; have u0 := cell_step t0 ((Below.refl _ w1).drew.trans hs); have u1 := cell_step t1 ((Below.refl _ w1).drew.trans hs); obtain ⟨q0, q1, q2, q3, q4⟩ := two_facts (blk_step K3.out ((Below.refl _ w1).drew.trans hs)) (.int .i64 s) (.int .i64 g); have Q4 := Lib.hid q4; rw [U.out]; clear hs V5 q4))
  go_wp2
  refine bodyPost_ret (v := .tuple #[.agg #[.int .i64 s, .int .i64 g], .int .i64 0]) (results_cellT rfl _ _ (w.heap.size + 1) [.int .i64 s, .int .i64 g] _ (.int .i64 0) rfl rfl (rng2 Q4.out) Tryz.underlying48 rfl (by kernel_rfl)) rfl ⟨by rw [HH.out, HC.out]; rfl, below_set (below_set B5.out (by omega) _ _) (by omega) _ _⟩
 ·have q : (codeT L x == 0) = false := by rw [beq_eq_false_iff_ne]; exact hc
  have HH := Lib.hid (headT_none hc)
  clear hc
  go_wp2_with fail
  refine (rf_why n _ us L x _ V1.out H.out LL.out.2).mono ?_
  rintro ev w2 ⟨rfl, hs⟩
  have B2 := Lib.hid (B1.out.trans (hs.mono B1.out.size))
  obtain ⟨q0, q1, q2, q3, q4⟩ := two_facts (blk_step K3.out hs) (.int .i64 0) (.int .i64 0)
  have Q4 := Lib.hid q4
  clear hs q4
  go_wp2_with fail
  refine bodyPost_ret (v := .tuple #[.agg #[.int .i64 0, .int .i64 0], .int .i64 (codeT L x)]) (results_cellT rfl _ _ (w.heap.size + 1) [.int .i64 0, .int .i64 0] _ (.int .i64 (codeT L x)) rfl rfl (rng2 Q4.out) Tryz.underlying48 rfl (by kernel_rfl)) rfl ⟨by rw [HH.out]; rfl, below_set (below_set B2.out (by omega) _ _) (by omega) _ _⟩
theorem rf_pages (n : Nat) (v : Value) (us : List Up) (L : List Pg) (w : World) (hv : SV lUp w v us) (hr : RefOk us L) (hn : L.length = n) (hn2 : n ≤ 256) :
  Calls Tryz.prog 52 #[refT n v] w fun ev w' => ∃ v', ev = .returned v' ∧ OwnS lInt w.heap.size w' v' (usedT L) ∧ Below w.heap.size w w' := by
 obtain ⟨va, vc, rfl, hlc, hcm⟩ := hv.lenform
 obtain ⟨N, hN⟩ : ∃ N, us.length = N := ⟨_, rfl⟩
 have H := Lib.hid hr
 have HL := Lib.hid (show usedT L = usedTo L n ∧ L.length = n by unfold usedT; rw [hn]; exact ⟨rfl, rfl⟩)
 rw [hN] at hlc hv ⊢
 obtain ⟨W, hW⟩ : ∃ W, W = w.alloc (.cells #[.int .i64 n, .slice va N vc] 38) := ⟨_, rfl⟩
 have b1 := alloc_below0 w (.cells #[.int .i64 n, .slice va N vc] 38)
 have B0 := Lib.hid (show Below w.heap.size w W by rw [hW]; exact b1)
 have K0 := Lib.hid (show W.heap[w.heap.size]? = some (.cells #[.int .i64 n, .slice va N vc] 38 (0, 0)) by rw [hW]; exact blk_new w _)
 have V := Lib.hid (hv.below B0.out)
 have hz : W.heap.size = w.heap.size + 1 := by rw [hW]; simp
 have Z := Lib.hid hz
 clear hv hr hN hn b1 hz
 unfold refT
 go_enter Tryz.func52, Tryz.ntmps52
 go_wp2
 rw [← hW]
 go_loopg [3, 4] n (fun r y i wr => ∃ k : Nat, k + r = n ∧ i = .int .i64 k ∧ OwnS lInt (w.heap.size + 1) wr y (usedTo L k) ∧ Below W.heap.size W wr)
 case atStart => exact ⟨0, by omega, rfl, OwnS.nil _ _ _, Below.refl _ _⟩
 case round =>
  obtain ⟨k, hk, rfl, hO, hB⟩ := hrel
  have A := Lib.hid hB
  have O := Lib.hid hO
  have V1 := Lib.hid (V.out.below hB)
  have t0 : wr.cell? ⟨w.heap.size, 0, none⟩ = some (.int .i64 n) := blk_cell (blk_step K0.out hB) 0
  have t1 : wr.cell? ⟨w.heap.size, 1, none⟩ = some (.slice va N vc) := blk_cell (blk_step K0.out hB) 1
  clear hB hO
  by_cases hlt : k < n
  ·have hL : k < L.length := by rw [HL.out.2]; exact hlt
   have i1 : IntKind.i64.wrap ((k : Int) + 1) = (k : Int) + 1 := Go.IntWalk.i64_in _ (by omega)
   have j4 : (k : Int) < (n : Int) := by omega
   have hg := List.getElem?_eq_getElem hL
   have HK := Lib.hid hk
   clear hk
   cases hp : L[k] with
   | none =>
    rw [hp] at hg
    have hu := H.out.gone (x := (k : Int)) (by rw [codeT_at hg]; decide)
    have U := Lib.hid (show upIx us k = -1 by unfold upIx; rw [hu]; rfl)
    have T := Lib.hid (show usedTo L (k + 1) = usedTo L k by rw [usedTo_succ, pageAt_get hg]; simp)
    clear hg hu hp
    go_wp2_with fail
    refine (mp_rf_find n _ us k _ V1.out).mono ?_
    rintro ev w3 ⟨rfl, hs⟩
    rw [U.out]
    have B3 := Lib.hid (A.out.trans (hs.mono A.out.size))
    have O3 := Lib.hid (O.out.below hs)
    clear hs
    go_wp2
    go_roundg (n - (k + 1))
    case measure => have := HK.out; omega
    case rel => exact ⟨k + 1, by omega, by go_num, by rw [T.out]; exact O3.out, B3.out⟩
   | some r =>
    rw [hp] at hg
    obtain ⟨j, hu, -⟩ := H.out.here hg
    have U := Lib.hid (show upIx us k = (j : Int) by unfold upIx; rw [hu]; rfl)
    have T := Lib.hid (show usedTo L (k + 1) = usedTo L k ++ [(k : Int)] by rw [usedTo_succ, pageAt_get hg]; rfl)
    have LN := Lib.hid (usedTo_len L k)
    have j5 : (0 : Int) ≤ (j : Int) := by omega
    clear hg hu hp
    go_wp2_with fail
    refine (mp_rf_find n _ us k _ V1.out).mono ?_
    rintro ev w3 ⟨rfl, hs⟩
    rw [U.out]
    have B3 := Lib.hid (A.out.trans (hs.mono A.out.size))
    have b3 := alloc_below0 w3 (.cells #[.int .i64 (k : Int)] 3)
    have B4 := Lib.hid (B3.out.trans (b3.mono B3.out.size))
    have SZ := Lib.hid (show w.heap.size + 1 ≤ w3.heap.size by have := B3.out.size; rw [Z.out] at this; exact this)
    have SZ4 := Lib.hid (show w.heap.size + 1 ≤ (w3.alloc (.cells #[.int .i64 (k : Int)] 3)).heap.size by have := B4.out.size; rw [Z.out] at this; exact this)
    have O4 := Lib.hid ((O.out.below hs).below b3)
    have SR := Lib.hid (OwnS.lit lInt (w.heap.size + 1) w3 w3.heap.size rfl [(k : Int)] SZ.out (by simp [maxLen])).sv
    clear hs b3
    go_wp2_with (refine wpList_appS lInt 39 Tryz.underlying39 lInt_known (by decide) (by decide) rfl (.tmp 15) (.tmp 17) rfl (w.heap.size + 1) rfl rfl O4.out SR.out (by have := LN.out; simp; omega) SZ4.out ?_; intro v2 w5 ho2 hg2)
    go_roundg (n - (k + 1))
    case measure => have := HK.out; omega
    case rel => exact ⟨k + 1, by omega, by go_num, by rw [T.out]; exact ho2, B4.out.trans ((Kept.of_grown hg2).below (fun j hj => by rw [Z.out]; exact (O4.out.bounds j hj.symm).1) B4.out.size)⟩
  ·obtain rfl : k = n := by omega
   go_wp2
   go_ret
   exact ⟨_, rfl, by rw [HL.out.1]; exact O.out.mono (by omega), B0.out.trans (A.out.mono B0.out.size)⟩
open Go.RowKit
theorem results_cell3 {fn : Func} {p u1 u2 : Tmp} {ty : TypeId} (h : fn.results = #[.cell p ty, .tmp u1, .tmp u2]) (tmps : Array Value) (w : World) (b : Nat) (cs : List Value) (d : TypeDesc) (e1 e2 : Value) (hp : tmps.getD p undef = .pointer (some ⟨b, 0, none⟩)) (h1 : tmps.getD u1 undef = e1) (h2 : tmps.getD u2 undef = e2) (hc : w.rangeAt b 0 cs)
  (hu : Tryz.prog.underlying ty = some d) (hd : d.isRow = true) (hi : (Tryz.prog.info? ty).map (·.size) = some cs.length) : (results fn tmps).run Tryz.prog w = .ok (.tuple #[.agg cs.toArray, e1, e2]) w := by
 have hl := run_loadVar_mid w b 0 ty cs d hc hu hd hi
 have hp' : tmps[p]?.getD undef = .pointer (some ⟨b, 0, none⟩) := by simpa using hp
 have h1' : tmps[u1]?.getD undef = e1 := by simpa using h1
 have h2' : tmps[u2]?.getD undef = e2 := by simpa using h2
 simp only [results, h]
 simp [hp', h1', h2', asAddr, hl, Result.andThen]
theorem RefOk.take {us : List Up} {L : List Pg} (h : RefOk us L) {k : Nat} (hk : L[k]? = some none) : RefOk (us ++ [((k : Int), 0, 0)]) (L.set k (some (0, 0))) := by
 have hlt := (List.getElem?_eq_some_iff.1 hk).1
 refine ⟨fun u hu => ?_, fun i r hi => ?_, ?_⟩
 ·rcases List.mem_append.1 hu with hu | hu
  ·obtain ⟨i, h1, h2⟩ := h.sound u hu
   refine ⟨i, h1, ?_⟩
   rw [List.getElem?_set, if_neg (fun e => by subst e; rw [hk] at h2; cases h2)]
   exact h2
  ·obtain rfl := List.mem_singleton.1 hu
   exact ⟨k, rfl, by rw [List.getElem?_set, if_pos rfl, if_pos hlt]⟩
 ·by_cases e : k = i
  ·subst e
   exact ⟨_, List.mem_append_right _ (List.mem_singleton.2 rfl), rfl⟩
  ·rw [List.getElem?_set, if_neg e] at hi
   obtain ⟨u, hu, he⟩ := h.full i r hi
   exact ⟨u, List.mem_append_left _ hu, he⟩
 ·rw [List.pairwise_append]
  refine ⟨h.apart, List.pairwise_singleton _ _, fun a ha b hb => ?_⟩
  obtain rfl := List.mem_singleton.1 hb
  obtain ⟨i, h1, h2⟩ := h.sound a ha
  intro e
  rw [h1] at e
  have : i = k := Int.ofNat.inj e
  subst this
  rw [hk] at h2; cases h2
theorem takeL_hit {L : List Pg} {k : Nat} (h : ∀ j, j < k → (pageAt L (j : Int)).isSome = true) (hk : L[k]? = some none) : takeN L = k ∧ takeE L = 0 ∧ takeL L = L.set k (some (0, 0)) := by
 unfold takeN takeE takeL; rw [firstFree_hit h hk]; exact ⟨rfl, rfl, rfl⟩
theorem takeL_none {L : List Pg} (h : ∀ j, j < L.length → (pageAt L (j : Int)).isSome = true) : takeN L = 0 ∧ takeE L = 3 ∧ takeL L = L := by
 unfold takeN takeE takeL; rw [firstFree_none h]; exact ⟨rfl, rfl, rfl⟩
theorem rf_takeN (n : Nat) (v : Value) (us : List Up) (L : List Pg) (w : World) (hv : OwnS lUp 0 w v us) (hr : RefOk us L) (hn : L.length = n) (hn2 : n ≤ 256) (hl : us.length ≤ 1000) :
  Calls Tryz.prog 33 #[refT n v] w fun ev w' => ∃ v' us', ev = .returned (.tuple #[refT n v', .int .i64 (takeN L : Int), .int .i64 (takeE L)]) ∧ OwnS lUp 0 w' v' us' ∧ (OwnS lUp w.heap.size w' v' us' ∨ v' = v) ∧ RefOk us' (takeL L) ∧ us'.length ≤ us.length + 1 ∧ Below w.heap.size w w' := by
 obtain ⟨va, vc, rfl, hlc, hcm⟩ := hv.sv.lenform
 obtain ⟨N, hN⟩ : ∃ N, us.length = N := ⟨_, rfl⟩
 have H := Lib.hid hr
 have HL := Lib.hid (show L.length = n from hn)
 have LN := Lib.hid hN
 rw [hN] at hlc hv hl ⊢
 obtain ⟨W, hW⟩ : ∃ W, W = (w.alloc (.cells #[.int .i64 n, .slice va N vc] 38)).alloc (.cells #[.int .i64 0, .slice none 0 0] 38) := ⟨_, rfl⟩
 have z1 : (w.alloc (.cells #[.int .i64 n, .slice va N vc] 38)).heap.size = w.heap.size + 1 := by simp
 have b1 := alloc_below0 w (.cells #[.int .i64 n, .slice va N vc] 38)
 have b2 := alloc_below0 (w.alloc (.cells #[.int .i64 n, .slice va N vc] 38)) (.cells #[.int .i64 0, .slice none 0 0] 38)
 have B0 := Lib.hid (show Below w.heap.size w W by rw [hW]; exact b1.trans (b2.mono b1.size))
 have K0 := Lib.hid (show W.heap[w.heap.size]? = some (.cells #[.int .i64 n, .slice va N vc] 38 (0, 0)) by rw [hW]; exact blk_step (blk_new w _) b2)
 have K1 := Lib.hid (show W.heap[w.heap.size + 1]? = some (.cells #[.int .i64 0, .slice none 0 0] 38 (0, 0)) by rw [hW, ← z1]; exact blk_new _ _)
 have V := Lib.hid (hv.below B0.out)
 have V00 := Lib.hid hv
 have hz : W.heap.size = w.heap.size + 2 := by rw [hW]; simp
 have Z := Lib.hid hz
 clear hv hr hN hn b1 b2 z1 hz
 unfold refT
 go_enter Tryz.func33, Tryz.ntmps33
 go_wp2
 rw [← hW]
 go_loopg [5] n (fun r i wr => ∃ k : Nat, k + r = n ∧ i = .int .i64 k ∧ (∀ j, j < k → (pageAt L (j : Int)).isSome = true) ∧ Below W.heap.size W wr)
 case atStart => exact ⟨0, by omega, rfl, fun j hj => absurd hj (by omega), Below.refl _ _⟩
 case round =>
  obtain ⟨k, hk, rfl, hU, hB⟩ := hrel
  have A := Lib.hid hB
  have U := Lib.hid hU
  have V1 := Lib.hid (V.out.below hB)
  have t0 : wr.cell? ⟨w.heap.size, 0, none⟩ = some (.int .i64 n) := blk_cell (blk_step K0.out hB) 0
  have t1 : wr.cell? ⟨w.heap.size, 1, none⟩ = some (.slice va N vc) := blk_cell (blk_step K0.out hB) 1
  clear hB hU
  by_cases hlt : k < n
  ·have hL : k < L.length := by rw [HL.out]; exact hlt
   have i1 : IntKind.i64.wrap ((k : Int) + 1) = (k : Int) + 1 := Go.IntWalk.i64_in _ (by omega)
   have j4 : (k : Int) < (n : Int) := by omega
   have hg := List.getElem?_eq_getElem hL
   have HK := Lib.hid hk
   clear hk
   cases hp : L[k] with
   | none =>
    rw [hp] at hg
    have hu := H.out.gone (x := (k : Int)) (by rw [codeT_at hg]; decide)
    have UI := Lib.hid (show upIx us k = -1 by unfold upIx; rw [hu]; rfl)
    have T := Lib.hid (takeL_hit U.out hg)
    have RO := Lib.hid (H.out.take hg)
    clear hg hu hp
    go_wp2_with fail
    refine (mp_rf_find n _ us k _ V1.out.sv).mono ?_
    rintro ev w3 ⟨rfl, hs⟩
    rw [UI.out]
    have B3 := Lib.hid (A.out.trans (hs.mono A.out.size))
    have bz := alloc_below0 w3 (.cells #[] 161)
    have V4 := Lib.hid ((V1.out.below hs).below bz)
    have O0 := Lib.hid (OwnS.lit lUp w3.heap.size w3 w3.heap.size rfl [] (Nat.le_refl _) (by simp))
    have BZ := Lib.hid bz
    have K3 := Lib.hid (blk_step K0.out B3.out)
    have K4 := Lib.hid (blk_step K1.out B3.out)
    have c0 : (w3.alloc (.cells #[] 161)).cell? ⟨w.heap.size, 1, none⟩ = some (.slice va N vc) := blk_cell (blk_step K3.out bz) 1
    clear hs bz
    go_wp2_with (first
     | (refine wpList_appS lUp 36 Tryz.underlying36 lUp_known (by decide) (by decide) rfl (.tmp 16) (.tmp 18) rfl w3.heap.size rfl rfl O0.out V4.out.sv (by have := LN.out; simp; omega) BZ.out.size ?_
        intro v5 w5 ho5 hg5
        rw [List.nil_append] at ho5
        have B5 := Lib.hid (BZ.out.trans ((Kept.of_grown hg5).below (n := w3.heap.size) (fun j hj => (O0.out.bounds j hj.symm).1) BZ.out.size))
        have bx := alloc_below0 w5 (.cells #[.int .i64 (k : Int), .int .i64 0, .int .i64 0] 161)
        have SR := Lib.hid (OwnS.lit lUp w3.heap.size w5 w5.heap.size rfl [((k : Int), 0, 0)] B5.out.size (by simp [maxLen])).sv
        have O5 := Lib.hid (ho5.below bx)
        have B6 := Lib.hid (B5.out.trans (bx.mono B5.out.size))
        clear ho5 hg5 bx)
     | (refine wpList_appS lUp 36 Tryz.underlying36 lUp_known (by decide) (by decide) rfl (.tmp 19) (.tmp 22) rfl w3.heap.size rfl rfl O5.out SR.out (by have := LN.out; simp; omega) B6.out.size ?_
        intro v7 w7 ho7 hg7
        have B7 := Lib.hid (B6.out.trans ((Kept.of_grown hg7).below (n := w3.heap.size) (fun j hj => (O5.out.bounds j hj.symm).1) B6.out.size))
        obtain ⟨a7, q7, rfl, -, -⟩ := ho7.lenN (n := N + 1) (by rw [List.length_append, LN.out]; rfl)
        have O7 := Lib.hid ho7
        have K5 := blk_step K3.out B7.out
        have K6 := blk_step K4.out B7.out
        have e0 := blk_cell K5 1
        have e1 := blk_free K5 1
        have K7 := blk_set K5 1 (.slice a7 (N + 1) q7)
        have K8 := blk_off K6 (b := w.heap.size) (by omega) 1 (.slice a7 (N + 1) q7)
        have d0 := blk_cell K7 0
        have d1 := blk_cell K7 1
        obtain ⟨q0, q1, q2, q3, q4⟩ := two_facts K8 (.int .i64 n) (.slice a7 (N + 1) q7)
        have Q4 := Lib.hid q4
        clear ho7 hg7 K5 K6 K7 K8 q4))
    have BW := B0.out.trans (B3.out.mono B0.out.size)
    have BE := below_set (below_set (below_set (BW.trans (B7.out.mono BW.size)) (b := w.heap.size) (Nat.le_refl _) 1 (.slice a7 (N + 1) q7)) (b := w.heap.size + 1) (by omega) 0 (.int .i64 n)) (b := w.heap.size + 1) (by omega) 1 (.slice a7 (N + 1) q7)
    have sz : w.heap.size + 2 ≤ w3.heap.size := by have := B3.out.size; rw [Z.out] at this; exact this
    have OE := ((O7.out.setOther (b := w.heap.size) (o := 1) (x := .slice a7 (N + 1) q7) (fun k hk => by have := (O7.out.bounds k hk).1; omega)).setOther (b := w.heap.size + 1) (o := 0) (x := .int .i64 n) (fun k hk => by have := (O7.out.bounds k hk).1; omega)).setOther (b := w.heap.size + 1) (o := 1) (x := .slice a7 (N + 1) q7) (fun k hk => by have := (O7.out.bounds k hk).1; omega)
    refine bodyPost_ret (v := .tuple #[.agg #[.int .i64 n, .slice a7 (N + 1) q7], .int .i64 k, .int .i64 0]) (results_cell3 rfl _ _ (w.heap.size + 1) [.int .i64 n, .slice a7 (N + 1) q7] _ (.int .i64 k) (.int .i64 0) rfl rfl rfl (rng2 Q4.out) Tryz.underlying38 rfl (by kernel_rfl)) rfl ?_
    rw [T.out.1, T.out.2.1, T.out.2.2]
    exact ⟨_, us ++ [((k : Int), 0, 0)], rfl, OE.mono (Nat.zero_le _), .inl (OE.mono (by first | exact B3.out.size | (have := B3.out.size; have := Z.out; omega))), RO.out, by rw [List.length_append, LN.out]; exact Nat.le_refl _, BE⟩
   | some r =>
    rw [hp] at hg
    obtain ⟨j, hu, -⟩ := H.out.here hg
    have UI := Lib.hid (show upIx us k = (j : Int) by unfold upIx; rw [hu]; rfl)
    have U2 := Lib.hid (show ∀ j, j < k + 1 → (pageAt L (j : Int)).isSome = true from fun j hj => by
     by_cases e : j = k
     ·subst e; rw [pageAt_get hg]; rfl
     ·exact U.out j (by omega))
    have j5 : ¬ (j : Int) < 0 := by omega
    clear hg hu hp
    go_wp2_with fail
    refine (mp_rf_find n _ us k _ V1.out.sv).mono ?_
    rintro ev w3 ⟨rfl, hs⟩
    rw [UI.out]
    have B3 := Lib.hid (A.out.trans (hs.mono A.out.size))
    clear hs
    go_wp2
    go_roundg (n - (k + 1))
    case measure => have := HK.out; omega
    case rel => exact ⟨k + 1, by omega, by go_num, U2.out, B3.out⟩
  ·obtain rfl : k = n := by omega
   have T := Lib.hid (takeL_none (L := L) (fun j hj => U.out j (by rw [HL.out] at hj; exact hj)))
   obtain ⟨q0, q1, q2, q3, q4⟩ := two_facts (blk_step K1.out A.out) (.int .i64 k) (.slice va N vc)
   have Q4 := Lib.hid q4
   clear q4
   go_wp2
   refine bodyPost_ret (v := .tuple #[.agg #[.int .i64 k, .slice va N vc], .int .i64 0, .int .i64 3]) (results_cell3 rfl _ _ (w.heap.size + 1) [.int .i64 k, .slice va N vc] _ (.int .i64 0) (.int .i64 3) rfl rfl rfl (rng2 Q4.out) Tryz.underlying38 rfl (by kernel_rfl)) rfl ?_
   have BE := below_set (below_set (B0.out.trans (A.out.mono B0.out.size)) (b := w.heap.size + 1) (by omega) 0 (.int .i64 k)) (b := w.heap.size + 1) (by omega) 1 (.slice va N vc)
   rw [T.out.1, T.out.2.1, T.out.2.2]
   exact ⟨_, us, rfl, V00.out.below BE, .inr rfl, H.out, by rw [LN.out]; omega, BE⟩
theorem rf_take (n : Nat) (v : Value) (us : List Up) (L : List Pg) (w : World) (hv : OwnS lUp 0 w v us) (hr : RefOk us L) (hn : L.length = n) (hn2 : n ≤ 256) (hl : us.length ≤ 1000) :
  Calls Tryz.prog 33 #[refT n v] w fun ev w' => ∃ v' us', ev = .returned (.tuple #[refT n v', .int .i64 (takeN L : Int), .int .i64 (takeE L)]) ∧ OwnS lUp 0 w' v' us' ∧ RefOk us' (takeL L) ∧ us'.length ≤ us.length + 1 ∧ Below w.heap.size w w' :=
 (rf_takeN n v us L w hv hr hn hn2 hl).mono (fun ev w' h => by obtain ⟨v', us', h1, h2, -, h3⟩ := h; exact ⟨v', us', h1, h2, h3⟩)
open Go.RowKit
theorem Lay.flat_drop {α : Type} (E : Lay α) : ∀ (xs : List α) (k : Nat), (E.flat xs).drop (k * E.sz) = E.flat (xs.drop k)
 | [], _ => by simp [Lay.flat]
 | _ :: _, 0 => by simp
 | x :: xs, k + 1 => by
  simp only [Lay.flat, List.drop_succ_cons]
  rw [List.drop_append, List.drop_of_length_le (by rw [E.len, Nat.add_mul]; omega), E.len, Nat.add_mul, show k * E.sz + 1 * E.sz - E.sz = k * E.sz by omega, E.flat_drop xs k, List.nil_append]
theorem SV.dropV {α : Type} {E : Lay α} {w : World} {b off n cap k : Nat} {xs : List α} (h : SV E w (.slice (some ⟨b, off, none⟩) n cap) xs) (hk : k ≤ xs.length) (hc : k < cap) : SV E w (.slice (some ⟨b, off + k * E.sz, none⟩) (n - k) (cap - k)) (xs.drop k) := by
 obtain ⟨a', cap', h1, h2, h3, h4, b', off', h5, h6⟩ := h
 obtain ⟨e, rfl, rfl⟩ := Value.slice.inj h1
 refine ⟨_, cap - k, by rw [List.length_drop], by rw [List.length_drop]; omega, by omega, fun h => (by cases h), b, off + k * E.sz, fun _ x hx => (Option.some.inj hx).symm, fun j u hu => ?_⟩
 have hlt : j < (xs.length - k) * E.sz := by
  have := (List.getElem?_eq_some_iff.1 hu).1
  rw [E.flat_len, List.length_drop] at this; exact this
 have hne : ¬ xs.length = 0 := fun h0 => by rw [h0] at hlt; simp at hlt
 have e2 := h5 hne _ e.symm
 obtain ⟨rfl, rfl⟩ : b = b' ∧ off = off' := by simpa using e2
 rw [← E.flat_drop, List.getElem?_drop] at hu
 rw [Nat.add_assoc]
 exact h6 _ u hu
theorem SV.dropE {α : Type} {E : Lay α} {w : World} (a : Addr) {k : Nat} {xs : List α} (hk : xs.length ≤ k) : SV E w (.slice (some a) 0 0) (xs.drop k) := by
 have e : xs.drop k = [] := List.drop_of_length_le hk
 rw [e]
 exact ⟨some a, 0, rfl, Nat.le_refl _, Nat.zero_le _, fun h => (by cases h), 0, 0, fun h => absurd rfl h, fun j u hu => by simp [Lay.flat] at hu⟩
theorem mp_grown_below {α : Type} {E : Lay α} {n : Nat} {w0 wx wy : World} {v : Value} {xs : List α} (hb : Below n w0 wx) (ho : OwnS E n wx v xs) (hg : wx.grownBy wy v.ownBlock) (hn : n ≤ wx.heap.size) : Below n w0 wy ∧ n ≤ wy.heap.size :=
 ⟨hb.trans ((Kept.of_grown hg).below (fun j hj => (ho.bounds j hj.symm).1) hn), Nat.le_trans hn (Kept.of_grown hg).size⟩
theorem mp_below_drew {n : Nat} {w w' : World} (h : Below n w w') : Below n w w'.drew := h.drew
theorem RefOk.give {us : List Up} {L : List Pg} (h : RefOk us L) {i j : Nat} {r : Rf} (hj : us[j]? = Option.some ((i : Int), r)) : RefOk (us.take j ++ us.drop (j + 1)) (L.set i Option.none) := by
 have hlt : j < us.length := (List.getElem?_eq_some_iff.1 hj).1
 have hsplit : us = us.take j ++ ((i : Int), r) :: us.drop (j + 1) := by
  conv => lhs; rw [← List.take_append_drop j us, List.drop_eq_getElem_cons hlt]
  rw [show us[j] = ((i : Int), r) from (List.getElem?_eq_some_iff.1 hj).2]
 have hap := h.apart
 rw [hsplit, List.pairwise_append] at hap
 obtain ⟨p1, p2, p3⟩ := hap
 have ne : ∀ u ∈ us.take j ++ us.drop (j + 1), u.1 ≠ (i : Int) := fun u hu => by
  rcases List.mem_append.1 hu with hu | hu
  ·exact p3 u hu _ List.mem_cons_self
  ·exact fun e => (List.pairwise_cons.1 p2).1 u hu e.symm
 have hin : ∀ u ∈ us.take j ++ us.drop (j + 1), u ∈ us := fun u hu => by
  rcases List.mem_append.1 hu with hu | hu
  ·exact List.mem_of_mem_take hu
  ·exact List.mem_of_mem_drop hu
 refine ⟨fun u hu => ?_, fun i' r' hi => ?_, ?_⟩
 ·obtain ⟨i', h1, h2⟩ := h.sound u (hin u hu)
  refine ⟨i', h1, ?_⟩
  rw [List.getElem?_set, if_neg (fun e => ne u hu (by rw [h1, e]))]
  exact h2
 ·rw [List.getElem?_set] at hi
  by_cases e : i = i'
  ·rw [if_pos e] at hi
   split at hi <;> cases hi
  ·rw [if_neg e] at hi
   obtain ⟨u, hu, he⟩ := h.full i' r' hi
   refine ⟨u, ?_, he⟩
   rw [hsplit] at hu
   rcases List.mem_append.1 hu with hu | hu
   ·exact List.mem_append_left _ hu
   ·rcases List.mem_cons.1 hu with rfl | hu
    ·exact absurd (Int.ofNat.inj he) e
    ·exact List.mem_append_right _ hu
 ·rw [List.pairwise_append]
  exact ⟨p1, (List.pairwise_cons.1 p2).2, fun a ha b hb => p3 a ha b (List.mem_cons_of_mem _ hb)⟩
theorem rf_giveN (n : Nat) (v : Value) (us : List Up) (L : List Pg) (x : Int) (w : World) (hv : OwnS lUp 0 w v us) (hr : RefOk us L) (hn : L.length = n) (hl : us.length ≤ 1000) :
  Calls Tryz.prog 47 #[refT n v, .int .i64 x] w fun ev w' => ∃ v' us', ev = .returned (.tuple #[refT n v', .int .i64 (codeT L x)]) ∧ OwnS lUp 0 w' v' us' ∧ (OwnS lUp w.heap.size w' v' us' ∨ v' = v) ∧ RefOk us' (giveL L x) ∧ us'.length ≤ us.length ∧ Below w.heap.size w w' := by
 obtain ⟨va, vc, rfl, hlc, hcm⟩ := hv.sv.lenform
 obtain ⟨N, hN⟩ : ∃ N, us.length = N := ⟨_, rfl⟩
 have H := Lib.hid hr
 have HL := Lib.hid (show L.length = n from hn)
 have LN := Lib.hid hN
 rw [hN] at hlc hv hl ⊢
 obtain ⟨W, hW⟩ : ∃ W, W = (w.alloc (.cells #[.int .i64 n, .slice va N vc] 38)).alloc (.cells #[.int .i64 0, .slice none 0 0] 38) := ⟨_, rfl⟩
 have z1 : (w.alloc (.cells #[.int .i64 n, .slice va N vc] 38)).heap.size = w.heap.size + 1 := by simp
 have b1 := alloc_below0 w (.cells #[.int .i64 n, .slice va N vc] 38)
 have b2 := alloc_below0 (w.alloc (.cells #[.int .i64 n, .slice va N vc] 38)) (.cells #[.int .i64 0, .slice none 0 0] 38)
 have B0 := Lib.hid (show Below w.heap.size w W by rw [hW]; exact b1.trans (b2.mono b1.size))
 have K0 := Lib.hid (show W.heap[w.heap.size]? = some (.cells #[.int .i64 n, .slice va N vc] 38 (0, 0)) by rw [hW]; exact blk_step (blk_new w _) b2)
 have K1 := Lib.hid (show W.heap[w.heap.size + 1]? = some (.cells #[.int .i64 0, .slice none 0 0] 38 (0, 0)) by rw [hW, ← z1]; exact blk_new _ _)
 have V := Lib.hid (hv.below B0.out)
 have V00 := Lib.hid hv
 have hz : W.heap.size = w.heap.size + 2 := by rw [hW]; simp
 have Z := Lib.hid hz
 clear hv hr hN hn b1 b2 z1 hz
 unfold refT
 go_enter Tryz.func47, Tryz.ntmps47
 go_wp2_with fail
 rw [← hW]
 refine (rf_why n _ us L x _ V.out.sv H.out HL.out).mono ?_
 rintro ev w1 ⟨rfl, hs⟩
 have B1 := Lib.hid (B0.out.trans (hs.mono B0.out.size))
 have B1W := Lib.hid hs
 have K2 := Lib.hid (blk_step K0.out hs)
 have K3 := Lib.hid (blk_step K1.out hs)
 have V1 := Lib.hid (V.out.below hs)
 have t0 : w1.cell? ⟨w.heap.size, 0, none⟩ = some (.int .i64 n) := blk_cell K2.out 0
 have t1 : w1.cell? ⟨w.heap.size, 1, none⟩ = some (.slice va N vc) := blk_cell K2.out 1
 clear hs hW
 by_cases hc : codeT L x = 0
 ·have HC := Lib.hid hc
  obtain ⟨i, s, g, rfl, hg⟩ : ∃ (i : Nat) (s g : Int), x = i ∧ L[i]? = some (some (s, g)) := by
   rcases page_cases L x with ⟨h, -⟩ | ⟨i, -, -, h⟩ | ⟨i, ⟨s, g⟩, h1, h2, -, h4⟩
   ·rw [hc] at h; cases h
   ·rw [hc] at h; cases h
   ·exact ⟨i, s, g, h1, h2⟩
  obtain ⟨j, hu, hj⟩ := H.out.here hg
  have U := Lib.hid (show upIx us i = (j : Int) by unfold upIx; rw [hu]; rfl)
  have HJ := Lib.hid hj
  have GL := Lib.hid (show giveL L i = L.set i none by unfold giveL; rw [if_pos hc]; rfl)
  have RO := Lib.hid (H.out.give hj)
  have hlt : j < N := by rw [← LN.out]; exact (List.getElem?_eq_some_iff.1 hj).1
  obtain ⟨b, off, ha⟩ := V1.out.sv.addr (by rw [LN.out]; omega)
  subst ha
  have j3 : (0 : Int) ≤ (j : Int) := by omega
  have j4 : (j : Int) < (N : Int) := by omega
  rw [hc]
  clear hc hg hu hj
  go_wp2_with fail
  refine (mp_rf_find n _ us i _ V1.out.sv).mono ?_
  rintro ev w3 ⟨rfl, hs⟩
  rw [U.out]
  have t0 := cell_step t0 hs
  have t1 := cell_step t1 hs
  have V3 := Lib.hid (V1.out.below hs)
  have B3 := Lib.hid (B1.out.trans (hs.mono B1.out.size))
  have K5 := Lib.hid (blk_step K2.out hs)
  have KR5 := Lib.hid (blk_step K3.out hs)
  have SZ := Lib.hid (show w.heap.size + 2 ≤ w3.heap.size by have := B1W.out.size; rw [Z.out] at this; exact Nat.le_trans this hs.size)
  have BD := Lib.hid (mp_below_drew (Below.refl w3.heap.size w3))
  have BZ := Lib.hid (BD.out.trans (alloc_below0 w3.drew (.cells #[] 161)))
  have V4 := Lib.hid (V3.out.below BZ.out)
  have O0 := Lib.hid (show OwnS lUp w3.heap.size (w3.drew.alloc (.cells #[] 161)) (.slice (some ⟨w3.heap.size, 0, none⟩) 0 0) [] from OwnS.lit lUp w3.heap.size w3.drew w3.heap.size rfl [] (Nat.le_refl _) (by simp))
  have HS := Lib.hid (show ∀ w', Below w3.heap.size w3 w' → w'.cell? ⟨w.heap.size, 1, none⟩ = some (.slice (some ⟨b, off, none⟩) N vc) from fun w' h => cell_step t1 h)
  have i1 : IntKind.i64.wrap ((j : Int) + 1) = (j : Int) + 1 := Go.IntWalk.i64_in _ (by omega)
  have JL := Lib.hid hlt
  clear hs
  go_wp2_with fail
  have jv : j ≤ vc := by omega
  have jn : j + 1 ≤ N := by omega
  have jw : j + 1 ≤ vc := by omega
  by_cases hvc : vc = j + 1
  ·obtain rfl : N = j + 1 := by omega
   subst hvc
   have je : (j : Int) ≤ (j : Int) + 1 := by omega
   have je0 : (0 : Int) ≤ (j : Int) + 1 := by omega
   refine AnyBut.region (fun w' => w'.cell? ⟨w.heap.size, 1, none⟩ = some (.slice (some ⟨b, off, none⟩) (j + 1) (j + 1))) 13 (by kernel_rfl) ?_
   refine tkB (i := 1) (oi := ⟨some 19, _, _, _, _, none⟩) (v := ?ve1) rfl (Or.inl ⟨by rfl, ?hye1⟩) (HS.out _ BD.out) ?reste1
   case hye1 => (intro w hSw; go_simp; try (with_reducible rfl))
   simp only [Act.put, sT, sZ, sS]
   refine tkB (i := 2) (oi := ⟨some 20, _, _, _, _, none⟩) (v := ?ve2) rfl (Or.inl ⟨by rfl, ?hye2⟩) (HS.out _ BD.out) ?reste2
   case hye2 => (intro w hSw; go_simp; try (with_reducible rfl))
   simp only [Act.put, sT, sZ, sS]
   refine tkB (i := 3) (oi := ⟨some 21, _, _, _, _, none⟩) (v := ?ve3) rfl (Or.inl ⟨by rfl, ?hye3⟩) (HS.out _ BD.out) ?reste3
   case hye3 => (intro w hSw; go_simp; try (with_reducible rfl))
   simp only [Act.put, sT, sZ, sS]
   refine tkB (i := 4) (oi := ⟨some 22, _, _, _, _, none⟩) (v := ?ve4) rfl (Or.inl ⟨by rfl, ?hye4⟩) (HS.out _ BD.out) ?reste4
   case hye4 => (intro w hSw; go_simp; try (with_reducible rfl))
   simp only [Act.put, sT, sZ, sS]
   refine tkB (i := 6) (oi := ⟨some 24, _, _, _, _, none⟩) (v := ?ve6) rfl (Or.inl ⟨by rfl, ?hye6⟩) (HS.out _ BD.out) ?reste6
   case hye6 => (intro w hSw; go_simp; try (with_reducible rfl))
   simp only [Act.put, sT, sZ, sS]
   refine tkB (i := 7) (oi := ⟨some 25, _, _, _, _, none⟩) (v := ?ve7) rfl (Or.inl ⟨by rfl, ?hye7⟩) (HS.out _ BD.out) ?reste7
   case hye7 => (intro w hSw; go_simp; try (with_reducible rfl))
   simp only [Act.put, sT, sZ, sS]
   refine tkB (i := 8) (oi := ⟨some 26, _, _, _, _, none⟩) (v := ?ve8) rfl (Or.inl ⟨by rfl, ?hye8⟩) (HS.out _ BD.out) ?reste8
   case hye8 => (intro w hSw; go_simp; try (with_reducible rfl))
   simp only [Act.put, sT, sZ, sS]
   refine tkB (i := 9) (oi := ⟨some 27, _, _, _, _, none⟩) (v := ?ve9) rfl (Or.inl ⟨by rfl, ?hye9⟩) (HS.out _ BD.out) ?reste9
   case hye9 => (intro w hSw; go_simp; try (with_reducible rfl))
   simp only [Act.put, sT, sZ, sS]
   refine tkB (i := 10) (oi := ⟨some 28, _, _, _, _, none⟩) (v := ?ve10) rfl (Or.inl ⟨by rfl, ?hye10⟩) (HS.out _ BD.out) ?reste10
   case hye10 => (intro w hSw; go_simp; try (with_reducible rfl))
   simp only [Act.put, sT, sZ, sS]
   refine AnyBut.one (i := 0) (o := ⟨some 18, _, _, _, _, none⟩) (by kernel_rfl) rfl (fun K hK => ?_)
   go_simp
   refine hK.out _ _ (fun _ => HS.out _ BZ.out) ?_
   clear hK K
   try simp only [Act.put, sT, sZ, sS]
   refine AnyBut.one (i := 5) (o := ⟨some 23, _, _, _, _, none⟩) (by kernel_rfl) rfl (fun K hK => ?_)
   refine step_appS lUp 36 Tryz.underlying36 lUp_known (by decide) (by decide) rfl (.tmp 18) (.tmp 22) rfl w3.heap.size rfl rfl O0.out (V4.out.sv.takeV (k := j) (by rw [LN.out]; omega)) (by have := LN.out; simp; omega) BZ.out.size ?_
   intro v5 w5 ho hg
   have P5 := Lib.hid (mp_grown_below BZ.out O0.out hg BZ.out.size)
   have V5 := Lib.hid (V3.out.below P5.out.1)
   rw [List.nil_append] at ho
   have O5 := Lib.hid ho
   clear ho hg
   refine hK.out _ _ (fun _ => HS.out _ P5.out.1) ?_
   clear hK K
   try simp only [Act.put, sT, sZ, sS]
   refine AnyBut.one (i := 11) (o := ⟨some 29, _, _, _, _, none⟩) (by kernel_rfl) rfl (fun K hK => ?_)
   refine step_appS lUp 36 Tryz.underlying36 lUp_known (by decide) (by decide) rfl (.tmp 23) (.tmp 28) rfl w3.heap.size rfl rfl O5.out (SV.dropE _ (by rw [LN.out]; omega)) (by have := LN.out; simp; omega) P5.out.1.size ?_
   intro v6 w6 ho hg
   have P6 := Lib.hid (mp_grown_below P5.out.1 O5.out hg P5.out.1.size)
   have O6 := Lib.hid ho
   clear ho hg
   refine hK.out _ _ (fun _ => HS.out _ P6.out.1) ?_
   clear hK K
   try simp only [Act.put, sT, sZ, sS]
   refine AnyBut.one (i := 12) (o := ⟨some 30, _, _, _, _, none⟩) (by kernel_rfl) rfl (fun K hK => ?_)
   go_simp
   refine hK.out _ _ (fun _ => HS.out _ P6.out.1) ?_
   clear hK K
   try simp only [Act.put, sT, sZ, sS]
   obtain ⟨M, hM⟩ : ∃ M, (us.take j ++ us.drop (j + 1)).length = M := ⟨_, rfl⟩
   have ML := Lib.hid hM
   obtain ⟨a6, q6, rfl, -, -⟩ := O6.out.lenN hM
   have K6 := blk_step K5.out P6.out.1
   have c6 := blk_cell K6 1
   have f6 := blk_free K6 1
   simp only [List.getElem?_toArray, List.getElem?_cons_zero, List.getElem?_cons_succ] at c6
   have K7 := blk_set K6 1 (.slice a6 M q6)
   have d0 := blk_cell K7 0
   have d1 := blk_cell K7 1
   have KR := blk_off (blk_step KR5.out P6.out.1) (b := w.heap.size) (by omega) 1 (.slice a6 M q6)
   obtain ⟨q0, q1, q2, q3, q4⟩ := two_facts KR (.int .i64 n) (.slice a6 M q6)
   have Q4 := Lib.hid q4
   clear K6 K7 KR q4 hM
   refine AnyBut.one (i := 13) (o := ⟨none, _, _, _, _, none⟩) (by kernel_rfl) rfl (fun K hK => ?_)
   go_simp
   refine hK.out _ _ (fun h => absurd rfl h) ?_
   clear hK K c6 f6
   try simp only [Act.put, sT, sZ, sS]
   refine AnyBut.done (by kernel_rfl) ?_ _
   go_wp2
   have BW := B3.out.trans (P6.out.1.mono B3.out.size)
   have BE := below_set (below_set (below_set BW (b := w.heap.size) (Nat.le_refl _) 1 (.slice a6 M q6)) (b := w.heap.size + 1) (by omega) 0 (.int .i64 n)) (b := w.heap.size + 1) (by omega) 1 (.slice a6 M q6)
   have OE := ((O6.out.setOther (b := w.heap.size) (o := 1) (x := .slice a6 M q6) (fun k hk => by have := (O6.out.bounds k hk).1; have := SZ.out; omega)).setOther (b := w.heap.size + 1) (o := 0) (x := .int .i64 n) (fun k hk => by have := (O6.out.bounds k hk).1; have := SZ.out; omega)).setOther (b := w.heap.size + 1) (o := 1) (x := .slice a6 M q6) (fun k hk => by have := (O6.out.bounds k hk).1; have := SZ.out; omega)
   refine bodyPost_ret (v := .tuple #[.agg #[.int .i64 n, .slice a6 M q6], .int .i64 0]) (results_cellT rfl _ _ (w.heap.size + 1) [.int .i64 n, .slice a6 M q6] _ (.int .i64 0) rfl rfl (rng2 Q4.out) Tryz.underlying38 rfl (by kernel_rfl)) rfl ?_
   rw [HC.out, GL.out]
   exact ⟨_, _, rfl, OE.mono (Nat.zero_le _), .inl (OE.mono (by first | exact B3.out.size | (have := B3.out.size; have := Z.out; omega))), RO.out, by rw [List.length_append, List.length_take, List.length_drop, LN.out]; omega, BE⟩
  ·have hvc2 : j + 1 < vc := by omega
   have je0 : (0 : Int) ≤ (j : Int) + 1 := by omega
   have je1 : (j : Int) + 1 ≤ (N : Int) := by omega
   refine AnyBut.region (fun w' => w'.cell? ⟨w.heap.size, 1, none⟩ = some (.slice (some ⟨b, off, none⟩) N vc)) 13 (by kernel_rfl) ?_
   refine tkB (i := 1) (oi := ⟨some 19, _, _, _, _, none⟩) (v := ?v1) rfl (Or.inl ⟨by rfl, ?hy1⟩) (HS.out _ BD.out) ?rest1
   case hy1 => (intro w hSw; go_simp; try (with_reducible rfl))
   simp only [Act.put, sT, sZ, sS]
   refine tkB (i := 2) (oi := ⟨some 20, _, _, _, _, none⟩) (v := ?v2) rfl (Or.inl ⟨by rfl, ?hy2⟩) (HS.out _ BD.out) ?rest2
   case hy2 => (intro w hSw; go_simp; try (with_reducible rfl))
   simp only [Act.put, sT, sZ, sS]
   refine tkB (i := 3) (oi := ⟨some 21, _, _, _, _, none⟩) (v := ?v3) rfl (Or.inl ⟨by rfl, ?hy3⟩) (HS.out _ BD.out) ?rest3
   case hy3 => (intro w hSw; go_simp; try (with_reducible rfl))
   simp only [Act.put, sT, sZ, sS]
   refine tkB (i := 4) (oi := ⟨some 22, _, _, _, _, none⟩) (v := ?v4) rfl (Or.inl ⟨by rfl, ?hy4⟩) (HS.out _ BD.out) ?rest4
   case hy4 => (intro w hSw; go_simp; try (with_reducible rfl))
   simp only [Act.put, sT, sZ, sS]
   refine tkB (i := 6) (oi := ⟨some 24, _, _, _, _, none⟩) (v := ?v6) rfl (Or.inl ⟨by rfl, ?hy6⟩) (HS.out _ BD.out) ?rest6
   case hy6 => (intro w hSw; go_simp; try (with_reducible rfl))
   simp only [Act.put, sT, sZ, sS]
   refine tkB (i := 7) (oi := ⟨some 25, _, _, _, _, none⟩) (v := ?v7) rfl (Or.inl ⟨by rfl, ?hy7⟩) (HS.out _ BD.out) ?rest7
   case hy7 => (intro w hSw; go_simp; try (with_reducible rfl))
   simp only [Act.put, sT, sZ, sS]
   refine tkB (i := 8) (oi := ⟨some 26, _, _, _, _, none⟩) (v := ?v8) rfl (Or.inl ⟨by rfl, ?hy8⟩) (HS.out _ BD.out) ?rest8
   case hy8 => (intro w hSw; go_simp; try (with_reducible rfl))
   simp only [Act.put, sT, sZ, sS]
   refine tkB (i := 9) (oi := ⟨some 27, _, _, _, _, none⟩) (v := ?v9) rfl (Or.inl ⟨by rfl, ?hy9⟩) (HS.out _ BD.out) ?rest9
   case hy9 => (intro w hSw; go_simp; try (with_reducible rfl))
   simp only [Act.put, sT, sZ, sS]
   refine tkB (i := 10) (oi := ⟨some 28, _, _, _, _, none⟩) (v := ?v10) rfl (Or.inl ⟨by rfl, ?hy10⟩) (HS.out _ BD.out) ?rest10
   case hy10 => (intro w hSw; go_simp; try (with_reducible rfl))
   simp only [Act.put, sT, sZ, sS]
   refine AnyBut.one (i := 0) (o := ⟨some 18, _, _, _, _, none⟩) (by kernel_rfl) rfl (fun K hK => ?_)
   go_simp
   refine hK.out _ _ (fun _ => HS.out _ BZ.out) ?_
   clear hK K
   try simp only [Act.put, sT, sZ, sS]
   refine AnyBut.one (i := 5) (o := ⟨some 23, _, _, _, _, none⟩) (by kernel_rfl) rfl (fun K hK => ?_)
   refine step_appS lUp 36 Tryz.underlying36 lUp_known (by decide) (by decide) rfl (.tmp 18) (.tmp 22) rfl w3.heap.size rfl rfl O0.out (V4.out.sv.takeV (k := j) (by rw [LN.out]; omega)) (by have := LN.out; simp; omega) BZ.out.size ?_
   intro v5 w5 ho hg
   have P5 := Lib.hid (mp_grown_below BZ.out O0.out hg BZ.out.size)
   have V5 := Lib.hid (V3.out.below P5.out.1)
   rw [List.nil_append] at ho
   have O5 := Lib.hid ho
   clear ho hg
   refine hK.out _ _ (fun _ => HS.out _ P5.out.1) ?_
   clear hK K
   try simp only [Act.put, sT, sZ, sS]
   refine AnyBut.one (i := 11) (o := ⟨some 29, _, _, _, _, none⟩) (by kernel_rfl) rfl (fun K hK => ?_)
   refine step_appS lUp 36 Tryz.underlying36 lUp_known (by decide) (by decide) rfl (.tmp 23) (.tmp 28) rfl w3.heap.size rfl rfl O5.out (V5.out.sv.dropV (k := j + 1) (by rw [LN.out]; omega) hvc2) (by have := LN.out; simp; omega) P5.out.1.size ?_
   intro v6 w6 ho hg
   have P6 := Lib.hid (mp_grown_below P5.out.1 O5.out hg P5.out.1.size)
   have O6 := Lib.hid ho
   clear ho hg
   refine hK.out _ _ (fun _ => HS.out _ P6.out.1) ?_
   clear hK K
   try simp only [Act.put, sT, sZ, sS]
   refine AnyBut.one (i := 12) (o := ⟨some 30, _, _, _, _, none⟩) (by kernel_rfl) rfl (fun K hK => ?_)
   go_simp
   refine hK.out _ _ (fun _ => HS.out _ P6.out.1) ?_
   clear hK K
   try simp only [Act.put, sT, sZ, sS]
   obtain ⟨M, hM⟩ : ∃ M, (us.take j ++ us.drop (j + 1)).length = M := ⟨_, rfl⟩
   have ML := Lib.hid hM
   obtain ⟨a6, q6, rfl, -, -⟩ := O6.out.lenN hM
   have K6 := blk_step K5.out P6.out.1
   have c6 := blk_cell K6 1
   have f6 := blk_free K6 1
   simp only [List.getElem?_toArray, List.getElem?_cons_zero, List.getElem?_cons_succ] at c6
   have K7 := blk_set K6 1 (.slice a6 M q6)
   have d0 := blk_cell K7 0
   have d1 := blk_cell K7 1
   have KR := blk_off (blk_step KR5.out P6.out.1) (b := w.heap.size) (by omega) 1 (.slice a6 M q6)
   obtain ⟨q0, q1, q2, q3, q4⟩ := two_facts KR (.int .i64 n) (.slice a6 M q6)
   have Q4 := Lib.hid q4
   clear K6 K7 KR q4 hM
   refine AnyBut.one (i := 13) (o := ⟨none, _, _, _, _, none⟩) (by kernel_rfl) rfl (fun K hK => ?_)
   go_simp
   refine hK.out _ _ (fun h => absurd rfl h) ?_
   clear hK K c6 f6
   try simp only [Act.put, sT, sZ, sS]
   refine AnyBut.done (by kernel_rfl) ?_ _
   go_wp2
   have BW := B3.out.trans (P6.out.1.mono B3.out.size)
   have BE := below_set (below_set (below_set BW (b := w.heap.size) (Nat.le_refl _) 1 (.slice a6 M q6)) (b := w.heap.size + 1) (by omega) 0 (.int .i64 n)) (b := w.heap.size + 1) (by omega) 1 (.slice a6 M q6)
   have OE := ((O6.out.setOther (b := w.heap.size) (o := 1) (x := .slice a6 M q6) (fun k hk => by have := (O6.out.bounds k hk).1; have := SZ.out; omega)).setOther (b := w.heap.size + 1) (o := 0) (x := .int .i64 n) (fun k hk => by have := (O6.out.bounds k hk).1; have := SZ.out; omega)).setOther (b := w.heap.size + 1) (o := 1) (x := .slice a6 M q6) (fun k hk => by have := (O6.out.bounds k hk).1; have := SZ.out; omega)
   refine bodyPost_ret (v := .tuple #[.agg #[.int .i64 n, .slice a6 M q6], .int .i64 0]) (results_cellT rfl _ _ (w.heap.size + 1) [.int .i64 n, .slice a6 M q6] _ (.int .i64 0) rfl rfl (rng2 Q4.out) Tryz.underlying38 rfl (by kernel_rfl)) rfl ?_
   rw [HC.out, GL.out]
   exact ⟨_, _, rfl, OE.mono (Nat.zero_le _), .inl (OE.mono (by first | exact B3.out.size | (have := B3.out.size; have := Z.out; omega))), RO.out, by rw [List.length_append, List.length_take, List.length_drop, LN.out]; omega, BE⟩
 ·have q : (codeT L x == 0) = false := by rw [beq_eq_false_iff_ne]; exact hc
  have GL := Lib.hid (show giveL L x = L by unfold giveL; rw [if_neg hc])
  obtain ⟨q0, q1, q2, q3, q4⟩ := two_facts K3.out (.int .i64 n) (.slice va N vc)
  have Q4 := Lib.hid q4
  have fw := fun w h => rf_why n (.slice va N vc) us L x w h H.out HL.out
  unfold refT at fw
  clear hc q4 q0 q1 q2 q3
  go_wp2_with fail
  go_region_held3 (fun w' => w'.cell? ⟨w.heap.size, 0, none⟩ = some (.int .i64 n) ∧ w'.cell? ⟨w.heap.size, 1, none⟩ = some (.slice va N vc)) (first | exact ⟨by assumption, by assumption⟩ | go_keep)
   (first
    | (go_at_call 74; (with_reducible refine (fw _ ?_).mono ?_); exact V1.out.sv.below (Below.refl _ _).drew; rintro e w5 ⟨rfl, hs⟩; have B5 := Lib.hid ((B1.out.drew).trans (hs.mono B1.out.size)); have u0 := cell_step t0 ((Below.refl _ w1).drew.trans hs); have u1 := cell_step t1 ((Below.refl _ w1).drew.trans hs); obtain ⟨q0, q1, q2, q3, q4⟩ := two_facts (blk_step K3.out ((Below.refl _ w1).drew.trans hs)) (.int .i64 n) (.slice va N vc); have Q4 := Lib.hid q4; clear hs q4))
  go_wp2
  have BE := below_set (below_set B5.out (b := w.heap.size + 1) (by omega) 0 (.int .i64 n)) (b := w.heap.size + 1) (by omega) 1 (.slice va N vc)
  refine bodyPost_ret (v := .tuple #[.agg #[.int .i64 n, .slice va N vc], .int .i64 (codeT L x)]) (results_cellT rfl _ _ (w.heap.size + 1) [.int .i64 n, .slice va N vc] _ (.int .i64 (codeT L x)) rfl rfl (rng2 Q4.out) Tryz.underlying38 rfl (by kernel_rfl)) rfl ?_
  rw [GL.out]
  exact ⟨_, us, rfl, V00.out.below BE, .inr rfl, H.out, by rw [LN.out]; exact Nat.le_refl _, BE⟩
open Go.RowKit
theorem RefOk.swap {us : List Up} {L : List Pg} (h : RefOk us L) {i j : Nat} {r r' : Rf} (hi : L[i]? = Option.some (Option.some r)) (hj : us[j]? = Option.some ((i : Int), r)) : RefOk (us.set j ((i : Int), r')) (L.set i (Option.some r')) := by
 have hlt : j < us.length := (List.getElem?_eq_some_iff.1 hj).1
 have hil : i < L.length := (List.getElem?_eq_some_iff.1 hi).1
 have apart := List.pairwise_iff_getElem.1 h.apart
 refine ⟨fun u hu => ?_, fun i' r1 h1 => ?_, ?_⟩
 ·obtain ⟨k, hk⟩ := List.mem_iff_getElem?.1 hu
  rw [List.getElem?_set] at hk
  by_cases e : j = k
  ·rw [if_pos e, if_pos hlt] at hk
   obtain rfl := Option.some.inj hk
   exact ⟨i, rfl, by rw [List.getElem?_set, if_pos rfl, if_pos hil]⟩
  ·rw [if_neg e] at hk
   obtain ⟨i', h1, h2⟩ := h.sound u (List.mem_of_getElem? hk)
   refine ⟨i', h1, ?_⟩
   rw [List.getElem?_set, if_neg (fun e2 => ?_)]
   ·exact h2
   ·subst e2
    have hkl := (List.getElem?_eq_some_iff.1 hk).1
    have e3 : us[k].1 = us[j].1 := by
     rw [(List.getElem?_eq_some_iff.1 hk).2, (List.getElem?_eq_some_iff.1 hj).2, h1]
    rcases Nat.lt_or_ge k j with hlt2 | hge
    ·exact apart k j hkl hlt hlt2 e3
    ·exact apart j k hlt hkl (by omega) e3.symm
 ·by_cases e : i = i'
  ·subst e
   exact ⟨((i : Int), r'), List.mem_iff_getElem?.2 ⟨j, by rw [List.getElem?_set, if_pos rfl, if_pos hlt]⟩, rfl⟩
  ·rw [List.getElem?_set, if_neg e] at h1
   obtain ⟨u, hu, he⟩ := h.full i' r1 h1
   obtain ⟨k, hk⟩ := List.mem_iff_getElem?.1 hu
   refine ⟨u, List.mem_iff_getElem?.2 ⟨k, ?_⟩, he⟩
   rw [List.getElem?_set, if_neg (fun e2 => ?_)]
   ·exact hk
   ·subst e2
    rw [hj] at hk
    rw [← Option.some.inj hk] at he
    exact e (Int.ofNat.inj he)
 ·rw [List.pairwise_iff_getElem]
  intro a b ha hb hab
  rw [List.length_set] at ha hb
  have ea : (us.set j ((i : Int), r'))[a].1 = us[a].1 := by
   rw [List.getElem_set]
   split
   ·rename_i e; subst e; rw [(List.getElem?_eq_some_iff.1 hj).2]
   ·rfl
  have eb : (us.set j ((i : Int), r'))[b].1 = us[b].1 := by
   rw [List.getElem_set]
   split
   ·rename_i e; subst e; rw [(List.getElem?_eq_some_iff.1 hj).2]
   ·rfl
  rw [ea, eb]
  exact apart a b ha hb hab
theorem rf_swapN (n : Nat) (v : Value) (us : List Up) (L : List Pg) (x os og ns ng : Int) (w : World) (hv : OwnS lUp 0 w v us) (hr : RefOk us L) (hn : L.length = n) (hl : us.length ≤ 1000) :
  Calls Tryz.prog 34 #[refT n v, .int .i64 x, refV os og, refV ns ng] w fun ev w' => ∃ v' us', ev = .returned (.tuple #[refT n v', .bool (swapB L x (os, og)), .int .i64 (codeT L x)]) ∧ OwnS lUp 0 w' v' us' ∧ (OwnS lUp w.heap.size w' v' us' ∨ v' = v) ∧ RefOk us' (swapL L x (os, og) (ns, ng)) ∧ us'.length ≤ us.length ∧ Below w.heap.size w w' := by
 obtain ⟨va, vc, rfl, hlc, hcm⟩ := hv.sv.lenform
 obtain ⟨N, hN⟩ : ∃ N, us.length = N := ⟨_, rfl⟩
 have H := Lib.hid hr
 have HL := Lib.hid (show L.length = n from hn)
 have LN := Lib.hid hN
 rw [hN] at hlc hv hl ⊢
 obtain ⟨w1, hw1⟩ : ∃ W, W = w.alloc (.cells #[.int .i64 n, .slice va N vc] 38) := ⟨_, rfl⟩
 obtain ⟨w2, hw2⟩ : ∃ W, W = w1.alloc (.cells #[.int .i64 os, .int .i64 og] 48) := ⟨_, rfl⟩
 obtain ⟨w3, hw3⟩ : ∃ W, W = w2.alloc (.cells #[.int .i64 ns, .int .i64 ng] 48) := ⟨_, rfl⟩
 obtain ⟨W, hW⟩ : ∃ W, W = w3.alloc (.cells #[.int .i64 0, .slice none 0 0] 38) := ⟨_, rfl⟩
 have b1 := alloc_below0 w (.cells #[.int .i64 n, .slice va N vc] 38)
 have k1 := blk_new w (.cells #[.int .i64 n, .slice va N vc] 38)
 rw [← hw1] at b1 k1
 have b2 := alloc_below0 w1 (.cells #[.int .i64 os, .int .i64 og] 48)
 have k2 := blk_new w1 (.cells #[.int .i64 os, .int .i64 og] 48)
 rw [← hw2] at b2 k2
 have b3 := alloc_below0 w2 (.cells #[.int .i64 ns, .int .i64 ng] 48)
 have k3 := blk_new w2 (.cells #[.int .i64 ns, .int .i64 ng] 48)
 rw [← hw3] at b3 k3
 have b4 := alloc_below0 w3 (.cells #[.int .i64 0, .slice none 0 0] 38)
 have k4 := blk_new w3 (.cells #[.int .i64 0, .slice none 0 0] 38)
 rw [← hW] at b4 k4
 have z1 : w1.heap.size = w.heap.size + 1 := by rw [hw1]; simp
 have z2 : w2.heap.size = w.heap.size + 1 + 1 := by rw [hw2]; simp [z1]
 have z3 : w3.heap.size = w.heap.size + 1 + 1 + 1 := by rw [hw3]; simp [z2]
 have Z := Lib.hid (show W.heap.size = w.heap.size + 4 by rw [hW]; simp [z3])
 have B0 := Lib.hid (show Below w.heap.size w W from ((b1.trans (b2.mono b1.size)).trans (b3.mono (Nat.le_trans b1.size b2.size))).trans (b4.mono (Nat.le_trans (Nat.le_trans b1.size b2.size) b3.size)))
 have K0 := Lib.hid (blk_step (blk_step (blk_step k1 b2) b3) b4)
 have K1 := Lib.hid (blk_step (blk_step k2 b3) b4)
 have K2 := Lib.hid (blk_step k3 b4)
 have K3 := Lib.hid k4
 rw [z1] at K1
 rw [z2] at K2
 rw [z3] at K3
 rw [hw3, hw2, hw1] at hW
 have V := Lib.hid (hv.below B0.out)
 have V00 := Lib.hid hv
 clear hv hr hN hn b1 b2 b3 b4 k1 k2 k3 k4 z1 z2 z3 hw1 hw2 hw3
 clear w1 w2 w3
 have fw := fun w h => rf_why n (.slice va N vc) us L x w h H.out HL.out
 have fc := fun w h => mp_rf_find n (.slice va N vc) us x w h
 unfold refT at fw fc ⊢
 unfold refV
 go_enter Tryz.func34, Tryz.ntmps34
 go_wp2_with fail
 rw [← hW]
 refine (fw _ V.out.sv).mono ?_
 rintro ev w1 ⟨rfl, hs⟩
 have B1 := Lib.hid (B0.out.trans (hs.mono B0.out.size))
 have B1W := Lib.hid hs
 have KT := Lib.hid (blk_step K0.out hs)
 have KO := Lib.hid (blk_step K1.out hs)
 have KN := Lib.hid (blk_step K2.out hs)
 have KZ := Lib.hid (blk_step K3.out hs)
 have V1 := Lib.hid (V.out.below hs)
 have t0 : w1.cell? ⟨w.heap.size, 0, none⟩ = some (.int .i64 n) := blk_cell KT.out 0
 have t1 : w1.cell? ⟨w.heap.size, 1, none⟩ = some (.slice va N vc) := blk_cell KT.out 1
 clear hs hW K0 K1 K2 K3
 by_cases hc : codeT L x = 0
 ·have HC := Lib.hid hc
  obtain ⟨i, s, g, rfl, hg, hh⟩ : ∃ (i : Nat) (s g : Int), x = i ∧ L[i]? = some (some (s, g)) ∧ headT L x = (s, g) := by
   rcases page_cases L x with ⟨h, -⟩ | ⟨i, -, -, h⟩ | ⟨i, ⟨s, g⟩, h1, h2, -, h4⟩
   ·rw [hc] at h; cases h
   ·rw [hc] at h; cases h
   ·exact ⟨i, s, g, h1, h2, h4⟩
  obtain ⟨j, hu, hj⟩ := H.out.here hg
  have U := Lib.hid (show upIx us i = (j : Int) by unfold upIx; rw [hu]; rfl)
  have HJ := Lib.hid hj
  have RO := Lib.hid (H.out.swap (r' := (ns, ng)) hg hj)
  have SB := Lib.hid (show swapB L i (os, og) = decide ((s, g) = (os, og)) by unfold swapB; rw [hc, hh]; simp)
  have hlt : j < N := by rw [← LN.out]; exact (List.getElem?_eq_some_iff.1 hj).1
  obtain ⟨b, off, ha⟩ := V1.out.sv.addr (by rw [LN.out]; omega)
  subst ha
  have j3 : (0 : Int) ≤ (j : Int) := by omega
  have j4 : (j : Int) < (N : Int) := by omega
  rw [hc]
  clear hc hg hu hj hh
  go_wp2_with fail
  refine (fc _ V1.out.sv).mono ?_
  rintro ev w3 ⟨rfl, hs⟩
  rw [U.out]
  have t0 := cell_step t0 hs
  have t1 := cell_step t1 hs
  have V3 := Lib.hid (V1.out.below hs)
  have B3 := Lib.hid (B1.out.trans (hs.mono B1.out.size))
  have KT3 := Lib.hid (blk_step KT.out hs)
  have KO3 := blk_step KO.out hs
  have KN3 := Lib.hid (blk_step KN.out hs)
  have KZ3 := Lib.hid (blk_step KZ.out hs)
  have SZ := Lib.hid (show w.heap.size + 4 ≤ w3.heap.size by have := B1W.out.size; rw [Z.out] at this; exact Nat.le_trans this hs.size)
  have o0 : w3.cell? ⟨w.heap.size + 1, 0, none⟩ = some (.int .i64 os) := blk_cell KO3 0
  have o1 : w3.cell? ⟨w.heap.size + 1, 1, none⟩ = some (.int .i64 og) := blk_cell KO3 1
  have x1 := V3.out.sv.cellAt (j := 1) HJ.out rfl
  have x2 := V3.out.sv.cellAt (j := 2) HJ.out rfl
  simp only [lUp] at x1 x2
  have JL := Lib.hid hlt
  clear hs KO3 fw fc
  go_wp2_with fail
  by_cases he : s = os ∧ g = og
  ·have HE := Lib.hid he
   have q1 : (s == os) = true := by simp [he.1]
   have q2 : (g == og) = true := by simp [he.2]
   have ST := Lib.hid (show swapB L i (os, og) = true by rw [SB.out]; simp [he.1, he.2])
   have SL := Lib.hid (show swapL L i (os, og) (ns, ng) = L.set i (some (ns, ng)) by unfold swapL; rw [if_pos ST.out]; rfl)
   clear he
   go_quiet (fail)
   have BZ := Lib.hid ((below_drewN (Below.refl w3.heap.size w3) nq).trans (alloc_below0 (w3.drewN nq) (.cells #[] 161)))
   have V4 := Lib.hid (V3.out.below BZ.out)
   have O0 := Lib.hid (show OwnS lUp w3.heap.size ((w3.drewN nq).alloc (.cells #[] 161)) (.slice (some ⟨w3.heap.size, 0, none⟩) 0 0) [] from OwnS.lit lUp w3.heap.size (w3.drewN nq) w3.heap.size rfl [] (Nat.le_refl _) (by simp))
   have c1 := cell_step t1 BZ.out
   have nN : ¬ us.length = 0 := by have := LN.out; have := JL.out; omega
   clear o0 o1 x1 x2 t0 t1
   go_wp2_with (refine wpList_appS lUp 36 Tryz.underlying36 lUp_known (by decide) (by decide) rfl (.tmp 33) (.tmp 35) rfl w3.heap.size rfl rfl O0.out V4.out.sv (by have := LN.out; simp; omega) BZ.out.size ?_
                intro v5 w5 ho hg
                have P5 := Lib.hid (mp_grown_below BZ.out O0.out hg BZ.out.size)
                rw [List.nil_append] at ho
                obtain ⟨m, cap, rfl, h1, h2, h3, h4⟩ := ho.form nN
                rw [LN.out] at ho h4 ⊢
                have O5 := Lib.hid ho
                have G := Lib.hid (show w3.heap.size ≤ m from h1)
                have y1 := ho.sv.cellAt (j := 1) HJ.out rfl
                have y2 := ho.sv.cellAt (j := 2) HJ.out rfl
                simp only [lUp, Nat.zero_add] at y1 y2
                have f1 := ho.free (j * 3 + 1)
                have f2 := ho.free (j * 3 + 2)
                have KN5 := blk_step KN3.out P5.out.1
                have e0 : w5.cell? ⟨w.heap.size + 1 + 1, 0, none⟩ = some (.int .i64 ns) := blk_cell KN5 0
                have e1 : w5.cell? ⟨w.heap.size + 1 + 1, 1, none⟩ = some (.int .i64 ng) := blk_cell KN5 1
                have KT5 := blk_off (blk_off (blk_step KT3.out P5.out.1) (b := m) (by have := G.out; have := SZ.out; omega) (j * 3 + 1) (.int .i64 ns)) (b := m) (by have := G.out; have := SZ.out; omega) (j * 3 + 2) (.int .i64 ng)
                have KZ5 := blk_off (blk_off (blk_step KZ3.out P5.out.1) (b := m) (by have := G.out; have := SZ.out; omega) (j * 3 + 1) (.int .i64 ns)) (b := m) (by have := G.out; have := SZ.out; omega) (j * 3 + 2) (.int .i64 ng)
                have c5 := blk_cell KT5 1
                have f5 := blk_free KT5 1
                simp only [List.getElem?_toArray, List.getElem?_cons_zero, List.getElem?_cons_succ] at c5
                have K7 := blk_set KT5 1 (.slice (some ⟨m, 0, none⟩) N cap)
                have d0 := blk_cell K7 0
                have d1 := blk_cell K7 1
                have KR := blk_off KZ5 (b := w.heap.size) (by omega) 1 (.slice (some ⟨m, 0, none⟩) N cap)
                obtain ⟨q0, q1, q2, q3, q4⟩ := two_facts KR (.int .i64 n) (.slice (some ⟨m, 0, none⟩) N cap)
                have Q4 := Lib.hid q4
                clear ho hg h1 h2 h3 KN5 KT5 KZ5 K7 KR q4)
   have hjl : j < us.length := by have := LN.out; have := JL.out; omega
   have s1 := O5.out.set (y := ((i : Int), ns, g)) (u := .int .i64 ns) HJ.out (j := 1) (by decide) rfl
   have s2 := s1.set (x := ((i : Int), ns, g)) (y := ((i : Int), ns, ng)) (u := .int .i64 ng) (i := j) (by simp [hjl]) (j := 2) (by decide) rfl
   rw [List.set_set] at s2
   have hm : w.heap.size + 4 ≤ m := by have := G.out; have := SZ.out; omega
   have OE := ((s2.setOther (b := w.heap.size) (o := 1) (x := .slice (some ⟨m, 0, none⟩) N cap) (fun k hk => by have := (s2.bounds k hk).1; have := SZ.out; omega)).setOther (b := w.heap.size + 1 + 1 + 1) (o := 0) (x := .int .i64 n) (fun k hk => by have := (s2.bounds k hk).1; have := SZ.out; omega)).setOther (b := w.heap.size + 1 + 1 + 1) (o := 1) (x := .slice (some ⟨m, 0, none⟩) N cap) (fun k hk => by have := (s2.bounds k hk).1; have := SZ.out; omega)
   have BW := B3.out.trans (P5.out.1.mono B3.out.size)
   have BE := below_set (below_set (below_set (below_set (below_set BW (b := m) (by omega) (j * 3 + 1) (.int .i64 ns)) (b := m) (by omega) (j * 3 + 2) (.int .i64 ng)) (b := w.heap.size) (Nat.le_refl _) 1 (.slice (some ⟨m, 0, none⟩) N cap)) (b := w.heap.size + 1 + 1 + 1) (by omega) 0 (.int .i64 n)) (b := w.heap.size + 1 + 1 + 1) (by omega) 1 (.slice (some ⟨m, 0, none⟩) N cap)
   refine bodyPost_ret (v := .tuple #[.agg #[.int .i64 n, .slice (some ⟨m, 0, none⟩) N cap], .bool true, .int .i64 0]) (results_cell3 rfl _ _ (w.heap.size + 1 + 1 + 1) [.int .i64 n, .slice (some ⟨m, 0, none⟩) N cap] _ (.bool true) (.int .i64 0) rfl rfl rfl (rng2 Q4.out) Tryz.underlying38 rfl (by kernel_rfl)) rfl ?_
   rw [HC.out, ST.out, SL.out]
   exact ⟨_, us.set j ((i : Int), ns, ng), rfl, OE.mono (Nat.zero_le _), .inl (OE.mono (by first | exact B3.out.size | (have := B3.out.size; have := Z.out; omega))), RO.out, by rw [List.length_set, LN.out]; exact Nat.le_refl _, BE⟩
  ·have SF := Lib.hid (show swapB L i (os, og) = false by rw [SB.out]; simp; exact fun h1 h2 => he ⟨h1, h2⟩)
   have SL := Lib.hid (show swapL L i (os, og) (ns, ng) = L by unfold swapL; rw [SF.out]; rfl)
   have D := Lib.hid (show (s == os) = false ∨ (s == os) = true ∧ (g == og) = false by
    by_cases e : s = os
    ·exact .inr ⟨by simp [e], by simp; exact fun h => he ⟨e, h⟩⟩
    ·exact .inl (by simp [e]))
   clear he
   rcases D.out with q1 | ⟨q1, q2⟩
   all_goals
    go_quiet (fail)
    have Bq := Lib.hid (below_drewN B3.out nq)
    obtain ⟨z0, z1, z2, z3, z4⟩ := two_facts (w := w3.drewN nq) KZ3.out (.int .i64 n) (.slice (some ⟨b, off, none⟩) N vc)
    have Z4 := Lib.hid z4
    clear z4
    go_wp2_with fail
    have BE := below_set (below_set Bq.out (b := w.heap.size + 1 + 1 + 1) (by omega) 0 (.int .i64 n)) (b := w.heap.size + 1 + 1 + 1) (by omega) 1 (.slice (some ⟨b, off, none⟩) N vc)
    refine bodyPost_ret (v := .tuple #[.agg #[.int .i64 n, .slice (some ⟨b, off, none⟩) N vc], .bool false, .int .i64 0]) (results_cell3 rfl _ _ (w.heap.size + 1 + 1 + 1) [.int .i64 n, .slice (some ⟨b, off, none⟩) N vc] _ (.bool false) (.int .i64 0) rfl rfl rfl (rng2 Z4.out) Tryz.underlying38 rfl (by kernel_rfl)) rfl ?_
    rw [HC.out, SF.out, SL.out]
    exact ⟨_, us, rfl, V00.out.below BE, .inr rfl, H.out, by rw [LN.out]; exact Nat.le_refl _, BE⟩
 ·have q : (codeT L x == 0) = false := by rw [beq_eq_false_iff_ne]; exact hc
  have SB := Lib.hid (show swapB L x (os, og) = false by unfold swapB; rw [decide_eq_false hc]; rfl)
  have SL := Lib.hid (show swapL L x (os, og) (ns, ng) = L by unfold swapL; rw [SB.out]; rfl)
  have nz1 : ¬ w.heap.size + 1 + 1 + 1 = w.heap.size := by omega
  have nz2 : ¬ w.heap.size = w.heap.size + 1 + 1 + 1 := by omega
  clear hc
  go_wp2_with fail
  go_region_held3 (fun w' => w'.cell? ⟨w.heap.size, 0, none⟩ = some (.int .i64 n) ∧ w'.cell? ⟨w.heap.size, 1, none⟩ = some (.slice va N vc)) (first | exact ⟨by assumption, by assumption⟩ | go_keep)
   (first
    | (go_at_call 74; (with_reducible refine (fw _ ?_).mono ?_); exact V1.out.sv.below (Below.refl _ _).drew; rintro e w5 ⟨rfl, hs⟩; have B5 := Lib.hid ((B1.out.drew).trans (hs.mono B1.out.size)); have u0 := cell_step t0 ((Below.refl _ w1).drew.trans hs); have u1 := cell_step t1 ((Below.refl _ w1).drew.trans hs); obtain ⟨q0, q1, q2, q3, q4⟩ := two_facts (blk_step KZ.out ((Below.refl _ w1).drew.trans hs)) (.int .i64 n) (.slice va N vc); have Q4 := Lib.hid q4; clear hs q4))
  go_wp2
  have BE := below_set (below_set B5.out (b := w.heap.size + 1 + 1 + 1) (by omega) 0 (.int .i64 n)) (b := w.heap.size + 1 + 1 + 1) (by omega) 1 (.slice va N vc)
  refine bodyPost_ret (v := .tuple #[.agg #[.int .i64 n, .slice va N vc], .bool false, .int .i64 (codeT L x)]) (results_cell3 rfl _ _ (w.heap.size + 1 + 1 + 1) [.int .i64 n, .slice va N vc] _ (.bool false) (.int .i64 (codeT L x)) rfl rfl rfl (rng2 Q4.out) Tryz.underlying38 rfl (by kernel_rfl)) rfl ?_
  rw [SB.out, SL.out]
  exact ⟨_, us, rfl, V00.out.below BE, .inr rfl, H.out, by rw [LN.out]; exact Nat.le_refl _, BE⟩
theorem rf_swap (n : Nat) (v : Value) (us : List Up) (L : List Pg) (x os og ns ng : Int) (w : World) (hv : OwnS lUp 0 w v us) (hr : RefOk us L) (hn : L.length = n) (hl : us.length ≤ 1000) :
  Calls Tryz.prog 34 #[refT n v, .int .i64 x, refV os og, refV ns ng] w fun ev w' => ∃ v' us', ev = .returned (.tuple #[refT n v', .bool (swapB L x (os, og)), .int .i64 (codeT L x)]) ∧ OwnS lUp 0 w' v' us' ∧ RefOk us' (swapL L x (os, og) (ns, ng)) ∧ us'.length ≤ us.length ∧ Below w.heap.size w w' :=
 (rf_swapN n v us L x os og ns ng w hv hr hn hl).mono (fun ev w' h => by obtain ⟨v', us', h1, h2, -, h3⟩ := h; exact ⟨v', us', h1, h2, h3⟩)
end Go.Proofs.YtejmdmaebkdjoaaGreatDoor
