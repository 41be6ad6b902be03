/- The document's own At, Child, Hold4 (layer 8); the laws' own rising and given; by contracts. -/
import Derived.Test.YtkkmfacngmginaaDoorInHold4
import Derived.Test.YtkkmfacngmginaaDoorInChild
import Derived.WalkLawsBesides
namespace Go.Proofs.YtkkmfacngmginaaDoor
open Go.RowKit

theorem bytesLess_bef : ∀ a b : List UInt8, Op.bytesLess a b = bef a b
  | [], [] => rfl
  | [], _ :: _ => rfl
  | _ :: _, [] => rfl
  | a :: x, b :: y => by
    rw [Op.bytesLess, bef_cons, bytesLess_bef x y]
    by_cases h : a = b
    · subst h
      simp
    · have hb : (a == b) = false := by simpa using h
      rw [if_neg h, hb, Bool.false_and, Bool.or_false]
      rfl
theorem risE_adj : ∀ l : List En, (∀ j, j + 1 < l.length → bef (l.getD j e0).1.data.toList (l.getD (j + 1) e0).1.data.toList = true) → risE none l = true
  | [], _ => rfl
  | [_], _ => rfl
  | x :: y :: l, h => by
    have ih := risE_adj (y :: l) (fun j hj => by have := h (j + 1) (by simpa using hj); simpa using this)
    have h0 : bef x.1.data.toList y.1.data.toList = true := by simpa using h 0 (by simp)
    refine risE_mk (fun q hq => by cases hq) (risE_some ih (fun e he => ?_))
    rcases List.mem_cons.1 he with rfl | he
    · exact h0
    · exact bef_trans _ _ _ h0 (risE_head l y.1 (risE_cons ih).2 e he)
theorem atE_at2 : ∀ (l : List En) (k : ByteArray) (n : Nat), n < l.length → (l.getD n e0).1 = k → (∀ j, j < n → (l.getD j e0).1 ≠ k) → atE l k = some n
  | [], _, _, h, _, _ => by simp at h
  | e :: l, k, 0, _, hk, _ => by
    unfold atE
    rw [if_pos ((eqB_iff _ _).2 (by simpa using hk))]
  | e :: l, k, n + 1, h, hk, hj => by
    unfold atE
    have h0 := hj 0 (by omega)
    rw [if_neg (fun h => h0 (by simpa using (eqB_iff _ _).1 h)), atE_at2 l k n (by simpa using h) (by simpa using hk) (fun j hlt => by have := hj (j + 1) (by omega); simpa using this)]
    rfl
theorem atE_no2 (l : List En) (k : ByteArray) (h : ∀ j, j < l.length → (l.getD j e0).1 ≠ k) : atE l k = none := by
  rw [atE_none]
  intro e he
  obtain ⟨i, hi⟩ := List.mem_iff_getElem?.1 he
  have hlt := (List.getElem?_eq_some_iff.1 hi).1
  have := h i hlt
  rw [List.getD, hi] at this
  exact this
/-- where an entry of just that key stands; -1: nowhere -/
def atI (v : IvD) (k : ByteArray) : Int := match atE v.ents k with | some n => n | none => -1
set_option maxRecDepth 100000 in
set_option maxHeartbeats 4000000 in
theorem refAt_any (v : IvD) (en : Value) (key : ByteArray) (w : World) (hv : SV lEnt w en v.ents) :
    Calls Tryd.prog 17 #[ivVal v en, .string key] w fun ev w' => ev = .returned (.int .i64 (atI v key)) ∧ Below w.heap.size w w' := by
  obtain ⟨a, c, rfl, hlc, hcm⟩ := hv.lenform
  obtain ⟨n, hn⟩ : ∃ n, v.ents.length = n := ⟨_, rfl⟩
  have LN := Lib.hid hn
  rw [hn] at hv hlc ⊢
  unfold maxLen at hcm
  obtain ⟨W0, hW0⟩ : ∃ W, W = w.alloc (ivObjR v (.slice a n c)) := ⟨_, rfl⟩
  have B0 := Lib.hid (show Below w.heap.size w W0 by rw [hW0]; exact alloc_below0 _ _)
  have K0 := Lib.hid (show HB w.heap.size (ivObjR v (.slice a n c)) W0 by rw [hW0]; exact HB.new _ _)
  have E0 := Lib.hid (hv.below B0.out)
  have v_4 : W0.cell? ⟨w.heap.size, 4, none⟩ = some (.slice a n c) := K0.out.cell 4
  unfold ivObjR at hW0
  clear hv hn
  unfold ivVal
  go_enter Tryd.func17, Tryd.ntmps17
  go_wp2
  rw [← hW0]
  clear hW0
  go_loopg [5] n (fun m vi wr => ∃ k : Nat, k + m = n ∧ vi = .int .i64 k ∧ (∀ j, j < k → (v.ents.getD j e0).1 ≠ key) ∧ Below W0.heap.size W0 wr)
  case atStart => exact ⟨0, by omega, rfl, fun j h => by omega, Below.refl _ _⟩
  case round =>
    obtain ⟨k, hk, rfl, hf, hB⟩ := hrel
    have A := Lib.hid (show (∀ j, j < k → (v.ents.getD j e0).1 ≠ key) ∧ Below W0.heap.size W0 wr ∧ k + gk = n from ⟨hf, hB, hk⟩)
    have w_4 := cell_step v_4 hB
    clear hf hB v_4
    by_cases hlt : k < n
    · obtain ⟨b, off, ha⟩ := E0.out.addr (by rw [LN.out]; omega)
      subst ha
      have hx := mem_at (es := v.ents) (i := k) (by rw [LN.out]; exact hlt)
      obtain ⟨⟨x, y⟩, he⟩ : ∃ e, v.ents.getD k e0 = e := ⟨_, rfl⟩
      rw [he] at hx
      have HE := Lib.hid he
      have x0 := cell_step (E0.out.cellAt (j := 0) hx rfl) A.out.2.1
      simp only [lEnt, Nat.add_zero] at x0
      have j1 : (0 : Int) ≤ (k : Int) := by omega
      have j2 : (k : Int) < (n : Int) := by omega
      clear hx he
      by_cases hxk : x = key
      · have hb : (x.toList == key.toList) = true := by rw [hxk]; simp
        have PE := Lib.hid (show atI v key = (k : Int) by unfold atI; rw [atE_at2 v.ents key k (by rw [LN.out]; exact hlt) (by rw [HE.out]; exact hxk) A.out.1])
        clear hxk
        go_wp2
        go_ret
        exact ⟨by rw [PE.out]; rfl, B0.out.trans (A.out.2.1.mono B0.out.size)⟩
      · have hb : (x.toList == key.toList) = false := by
          cases h : (x.toList == key.toList) with
          | false => rfl
          | true => exact absurd ((eqB_iff x key).1 h) hxk
        have G := Lib.hid (show ∀ i, i < k + 1 → (v.ents.getD i e0).1 ≠ key from fun i h1 => by
          rcases Nat.lt_or_eq_of_le (Nat.lt_succ_iff.1 h1) with h | h
          · exact A.out.1 i h
          · rw [h, HE.out]; exact hxk)
        clear hxk
        go_wp2
        go_roundg (n - (k + 1))
        case measure => have := A.out.2.2; omega
        case rel => exact ⟨k + 1, by omega, by go_num, G.out, A.out.2.1⟩
    · have PE := Lib.hid (show atI v key = -1 by unfold atI; rw [atE_no2 v.ents key (fun j h => A.out.1 j (by have := LN.out; omega))])
      go_wp2
      go_ret
      exact ⟨by rw [PE.out]; rfl, B0.out.trans (A.out.2.1.mono B0.out.size)⟩

/-! ### Child -/
theorem childL_pre : ∀ (l : List En) (key : ByteArray) (k : Nat), k ≤ l.length → (∀ j, j < k → bef key.data.toList (l.getD j e0).1.data.toList = false) → (k < l.length → bef key.data.toList (l.getD k e0).1.data.toList = true) →
    childL l key = if k = 0 then none else some (l.getD (k - 1) e0)
  | [], _, k, h, _, _ => by
    obtain rfl : k = 0 := by simpa using h
    rfl
  | e :: l, key, 0, _, _, hk => by
    rw [childL_first e l (by simpa using hk (by simp)), if_pos rfl]
  | e :: l, key, k + 1, h, hj, hk => by
    have h0 : bef key.data.toList e.1.data.toList = false := by simpa using hj 0 (by omega)
    have ih := childL_pre l key k (by simpa using h) (fun j hlt => by have := hj (j + 1) (by omega); simpa using this) (fun hlt => by have := hk (by simpa using hlt); simpa using this)
    show (if bef key.data.toList e.1.data.toList = true then none else some ((childL l key).getD e)) = _
    rw [if_neg (by rw [h0]; simp), ih, if_neg (Nat.succ_ne_zero k)]
    cases k with
    | zero => rfl
    | succ k => rfl
theorem refVIn_any (v : IvD) (a : Option Addr) (n c : Nat) (key : ByteArray) (w : World) (h1 : v.low.size ≤ maxLen) (h2 : v.high.size ≤ maxLen) (h3 : key.size ≤ maxLen) :
    Calls Tryd.prog 42 #[ivVal v (.slice a n c), .string key] w fun ev w' => ev = .returned (.bool (inI v key)) ∧ Below w.heap.size w w' := by
  obtain ⟨W0, hW0⟩ : ∃ W, W = w.alloc (ivObjR v (.slice a n c)) := ⟨_, rfl⟩
  have B0 := Lib.hid (show Below w.heap.size w W0 by rw [hW0]; exact alloc_below0 _ _)
  have K0 := Lib.hid (show HB w.heap.size (ivObjR v (.slice a n c)) W0 by rw [hW0]; exact HB.new _ _)
  have v_0 : W0.cell? ⟨w.heap.size, 0, none⟩ = some (.string v.low) := K0.out.cell 0
  have v_1 : W0.cell? ⟨w.heap.size, 1, none⟩ = some (.string v.high) := K0.out.cell 1
  have v_2 : W0.cell? ⟨w.heap.size, 2, none⟩ = some (.bool v.unb) := K0.out.cell 2
  unfold ivObjR at hW0
  have fc := fun w => refIn_any v.low v.high key v.unb w h1 h2 h3
  clear h1 h2 h3
  unfold ivVal
  go_enter Tryd.func42, Tryd.ntmps42
  go_wp2_with fail
  rw [← hW0]
  refine (fc _).mono ?_
  rintro ev w1 ⟨rfl, hs⟩
  have B1 := Lib.hid (B0.out.trans (hs.mono B0.out.size))
  clear hs fc hW0
  go_wp2
  go_ret
  exact ⟨rfl, B1.out⟩
theorem childV_eq {v : IvD} {key : ByteArray} {k : Nat} (h : childL v.ents key = if k = 0 then none else some (v.ents.getD (k - 1) e0)) : childI v key = if inI v key = true then (if k = 0 then none else some (v.ents.getD (k - 1) e0)) else none := by
  unfold childI; rw [h]
/-- what a prefix of entries not behind a key leaves -/
def lastE (es : List En) (k : Nat) : En := if k = 0 then e0 else es.getD (k - 1) e0
set_option maxRecDepth 100000 in
set_option maxHeartbeats 4000000 in
theorem refChild_any (v : IvD) (en : Value) (key : ByteArray) (w : World) (hv : SV lEnt w en v.ents) (hz : SzI v) (hk : key.size ≤ maxLen) :
    Calls Tryd.prog 12 #[ivVal v en, .string key] w fun ev w' => ev = .returned (.tuple #[entVal ((childI v key).getD e0), .int .i64 (childC v key)]) ∧ Below w.heap.size w w' := by
  have hnot : ∀ (x : Bool) (w : World), (Op.unary .not (.bool x)).run Tryd.prog w = .ok (.bool (!x)) w := fun _ _ => rfl
  obtain ⟨a, c, rfl, hlc, hcm⟩ := hv.lenform
  obtain ⟨n, hn⟩ : ∃ n, v.ents.length = n := ⟨_, rfl⟩
  have LN := Lib.hid hn
  have SZ := Lib.hid hz
  have HK := Lib.hid hk
  rw [hn] at hv hlc ⊢
  unfold maxLen at hcm
  obtain ⟨W0, hW0⟩ : ∃ W, W = ((w.alloc (ivObjR v (.slice a n c))).alloc (entObj e0)).alloc (entObj e0) := ⟨_, rfl⟩
  have B0 := Lib.hid (show Below w.heap.size w W0 by rw [hW0]; exact (alloc2_below _ _ _).trans ((alloc_below0 _ _).mono (alloc2_below _ _ _).size))
  have K0 := Lib.hid (show HB w.heap.size (ivObjR v (.slice a n c)) W0 by rw [hW0]; exact (HB.fst _ _ _).below (alloc_below0 _ _))
  have R0 := Lib.hid (show HB (w.heap.size + 1) (entObj e0) W0 by rw [hW0]; exact (HB.snd _ _ _).below (alloc_below0 _ _))
  have O0 := Lib.hid (show HB (w.heap.size + 1 + 1) (entObj e0) W0 by rw [hW0, show w.heap.size + 1 + 1 = ((w.alloc (ivObjR v (.slice a n c))).alloc (entObj e0)).heap.size by simp]; exact HB.new _ _)
  have E0 := Lib.hid (hv.below B0.out)
  have EW := Lib.hid hv
  unfold ivObjR entObj e0 at hW0
  simp only at hW0
  clear hv hn hz hk
  unfold ivVal entVal
  go_enter Tryd.func12, Tryd.ntmps12
  go_wp2
  rw [← hW0]
  clear hW0
  have fv := fun w => refVIn_any v a n c key w SZ.out.low SZ.out.high HK.out
  unfold ivVal at fv
  go_loopg [7, 8] n (fun m vf vi wr => ∃ (k : Nat) (fb : Bool), k + m = n ∧ vi = .int .i64 k ∧ vf = .bool fb ∧ (fb = true ↔ 0 < k) ∧ (∀ j, j < k → bef key.data.toList (v.ents.getD j e0).1.data.toList = false) ∧ HB w.heap.size (ivObjR v (.slice a n c)) wr ∧ HB (w.heap.size + 1) (entObj e0) wr ∧ HB (w.heap.size + 1 + 1) (entObj (lastE v.ents k)) wr ∧ Below w.heap.size w wr)
  case atStart => exact ⟨0, false, by omega, rfl, rfl, by simp, fun j h => by omega, K0.out, R0.out, O0.out, B0.out⟩
  case round =>
    clear K0 R0 O0 B0 E0
    obtain ⟨k, fb, hk, rfl, rfl, hfb, hpre, hK, hR, hO, hB⟩ := hrel
    have HF := Lib.hid hfb
    have PRE := Lib.hid hpre
    have KR := Lib.hid hK
    have RR := Lib.hid hR
    have OR := Lib.hid hO
    have BR := Lib.hid hB
    have HKK := Lib.hid hk
    have w_4 : wr.cell? ⟨w.heap.size, 4, none⟩ = some (.slice a n c) := hK.cell 4
    clear hfb hpre hK hR hO hB
    by_cases hlt : k < n
    · have ER := Lib.hid (EW.out.below BR.out)
      obtain ⟨b, off, ha⟩ := ER.out.addr (by rw [LN.out]; omega)
      subst ha
      have hx := mem_at (es := v.ents) (i := k) (by rw [LN.out]; exact hlt)
      obtain ⟨⟨x, y⟩, he⟩ : ∃ e, v.ents.getD k e0 = e := ⟨_, rfl⟩
      rw [he] at hx
      have HE := Lib.hid he
      have HX := Lib.hid (SZ.out.ents (x, y) (List.mem_of_getElem? hx))
      have x0 := ER.out.cellAt (j := 0) hx rfl
      have x1 := ER.out.cellAt (j := 1) hx rfl
      simp only [lEnt, Nat.add_zero] at x0 x1
      have j1 : (0 : Int) ≤ (k : Int) := by omega
      have j2 : (k : Int) < (n : Int) := by omega
      have fb2 := fun w => refBefore_any key x w HK.out HX.out
      clear hx he
      go_wp2_with fail
      refine (fb2 _).mono ?_
      rintro ev w1 ⟨rfl, hs⟩
      have K1 := Lib.hid (KR.out.below hs)
      have R1 := Lib.hid (RR.out.below hs)
      have O1 := Lib.hid (OR.out.below hs)
      have B1 := Lib.hid (BR.out.trans (hs.mono BR.out.size))
      have z0 := cell_step x0 hs
      have z1 := cell_step x1 hs
      have z4 := cell_step w_4 hs
      clear hs x0 x1 w_4 fb2 KR RR OR ER
      cases hbf : bef key.data.toList x.data.toList with
      | true =>
        have PL := Lib.hid (childL_pre v.ents key k (by rw [LN.out]; omega) PRE.out (fun _ => by rw [HE.out]; exact hbf))
        clear hbf z0 z1 z4
        cases k with
        | zero =>
          obtain rfl : fb = false := by cases fb with | false => rfl | true => exact absurd (HF.out.1 rfl) (by decide)
          have PC := Lib.hid (show childI v key = none from by rw [childV_eq PL.out]; simp)
          go_wp2_with (refine wpList_store_mid rfl 40 (.tmp 4) (.tmp 41) rfl (w.heap.size + 1) 0 ([.string ⟨#[]⟩, .int .i64 0] : List Value).toArray rfl rfl ?_ entInfoS (by kernel_rfl) ?_; exact R1.out.there 2 (Nat.le_refl _))
          have B6 := below_setCells (b := w.heap.size + 1) (Nat.le_succ w.heap.size) [.string ⟨#[]⟩, .int .i64 0] 0 _ B1.out
          refine bodyPost_ret (v := .tuple #[.agg ([.string ⟨#[]⟩, .int .i64 0] : List Value).toArray, .int .i64 2]) (results_cellT rfl _ _ (w.heap.size + 1) _ _ _ rfl rfl (World.rangeAt_setCells_same _ _ 0 _ (R1.out.there 2 (Nat.le_refl _))) Tryd.underlying40 rfl entInfoS) rfl ?_
          exact ⟨by unfold childC; rw [PC.out]; rfl, B6⟩
        | succ i =>
          obtain rfl : fb = true := HF.out.2 (by omega)
          obtain ⟨⟨x9, p9⟩, h9⟩ : ∃ e, v.ents.getD i e0 = e := ⟨_, rfl⟩
          have HC := Lib.hid (show childI v key = if inI v key = true then some (x9, p9) else none from by rw [childV_eq PL.out, if_neg (Nat.succ_ne_zero i), Nat.add_sub_cancel, h9])
          have OX := Lib.hid (show HB (w.heap.size + 1 + 1) (entObj (x9, p9)) w1 from by have h := O1.out; unfold lastE at h; rw [if_neg (Nat.succ_ne_zero i), Nat.add_sub_cancel, h9] at h; exact h)
          clear h9
          have u_0 := K1.out.cell 0
          have u_1 := K1.out.cell 1
          have u_2 := K1.out.cell 2
          have u_3 := K1.out.cell 3
          have u_4 := K1.out.cell 4
          have u_5 := K1.out.cell 5
          have u_6 := K1.out.cell 6
          have u_7 := K1.out.cell 7
          have u_8 := K1.out.cell 8
          simp at u_0 u_1 u_2 u_3 u_4 u_5 u_6 u_7 u_8
          go_wp2_with fail
          refine (fv _).mono ?_
          rintro ev w5 ⟨rfl, hs⟩
          have B5 := Lib.hid (B1.out.trans (hs.mono B1.out.size))
          have R5 := Lib.hid (R1.out.below hs)
          have O5 := Lib.hid (OX.out.below hs)
          clear hs u_0 u_1 u_2 u_3 u_4 u_5 u_6 u_7 u_8
          cases hin : inI v key with
          | false =>
            have PC := Lib.hid (show childI v key = none from by rw [HC.out, hin]; rfl)
            clear hin
            go_wp2_with (refine wpList_store_mid rfl 40 (.tmp 4) (.tmp 41) rfl (w.heap.size + 1) 0 ([.string ⟨#[]⟩, .int .i64 0] : List Value).toArray rfl rfl ?_ entInfoS (by kernel_rfl) ?_; exact R5.out.there 2 (Nat.le_refl _))
            have B6 := below_setCells (b := w.heap.size + 1) (Nat.le_succ w.heap.size) [.string ⟨#[]⟩, .int .i64 0] 0 _ B5.out
            refine bodyPost_ret (v := .tuple #[.agg ([.string ⟨#[]⟩, .int .i64 0] : List Value).toArray, .int .i64 2]) (results_cellT rfl _ _ (w.heap.size + 1) _ _ _ rfl rfl (World.rangeAt_setCells_same _ _ 0 _ (R5.out.there 2 (Nat.le_refl _))) Tryd.underlying40 rfl entInfoS) rfl ?_
            exact ⟨by unfold childC; rw [PC.out]; rfl, B6⟩
          | true =>
            have PC := Lib.hid (show childI v key = some (x9, p9) from by rw [HC.out, hin]; rfl)
            clear hin
            have x0 := O5.out.cell 0
            have x1 := O5.out.cell 1
            simp at x0 x1
            go_wp2_with (refine wpList_store_mid rfl 40 (.tmp 4) (.tmp 42) rfl (w.heap.size + 1) 0 ([.string x9, .int .i64 p9] : List Value).toArray rfl rfl ?_ entInfoS (by kernel_rfl) ?_; exact R5.out.there 2 (Nat.le_refl _))
            have B6 := below_setCells (b := w.heap.size + 1) (Nat.le_succ w.heap.size) [.string x9, .int .i64 p9] 0 _ B5.out
            refine bodyPost_ret (v := .tuple #[.agg ([.string x9, .int .i64 p9] : List Value).toArray, .int .i64 0]) (results_cellT rfl _ _ (w.heap.size + 1) _ _ _ rfl rfl (World.rangeAt_setCells_same _ _ 0 _ (R5.out.there 2 (Nat.le_refl _))) Tryd.underlying40 rfl entInfoS) rfl ?_
            exact ⟨by unfold childC; rw [PC.out]; rfl, B6⟩
      | false =>
        have G := Lib.hid (show ∀ j, j < k + 1 → bef key.data.toList (v.ents.getD j e0).1.data.toList = false from fun j h => by
          rcases Nat.lt_or_eq_of_le (Nat.lt_succ_iff.1 h) with h | h
          · exact PRE.out j h
          · rw [h, HE.out]; exact hbf)
        clear hbf
        go_wp2_with (refine wpList_store_mid rfl 40 (.tmp 6) (.tmp 32) rfl (w.heap.size + 1 + 1) 0 ([.string x, .int .i64 y] : List Value).toArray rfl rfl ?_ entInfoS (by kernel_rfl) ?_; exact O1.out.there 2 (Nat.le_refl _))
        have B2 := below_setCells (b := w.heap.size + 1 + 1) (by omega) [.string x, .int .i64 y] 0 _ B1.out
        have K2 := K1.out.off (b2 := w.heap.size + 1 + 1) (by omega) [.string x, .int .i64 y] 0
        have R2 := R1.out.off (b2 := w.heap.size + 1 + 1) (by omega) [.string x, .int .i64 y] 0
        have O2 := O1.out.sets [.string x, .int .i64 y] rfl
        have B2 := Lib.hid B2
        have K2 := Lib.hid K2
        have R2 := Lib.hid R2
        have O2 := Lib.hid (show HB (w.heap.size + 1 + 1) (entObj (lastE v.ents (k + 1))) _ from by unfold lastE; rw [if_neg (Nat.succ_ne_zero k), Nat.add_sub_cancel, HE.out]; exact O2)
        go_roundg (n - (k + 1))
        case measure => have := HKK.out; omega
        case rel => exact ⟨k + 1, true, by omega, by go_num, rfl, by simp, G.out, K2.out, R2.out, O2.out, B2.out⟩
    · have PL := Lib.hid (childL_pre v.ents key k (by rw [LN.out]; omega) PRE.out (fun h => absurd h (by rw [LN.out]; exact hlt)))
      cases k with
      | zero =>
        obtain rfl : fb = false := by cases fb with | false => rfl | true => exact absurd (HF.out.1 rfl) (by decide)
        have PC := Lib.hid (show childI v key = none from by rw [childV_eq PL.out]; simp)
        go_wp2_with (refine wpList_store_mid rfl 40 (.tmp 4) (.tmp 41) rfl (w.heap.size + 1) 0 ([.string ⟨#[]⟩, .int .i64 0] : List Value).toArray rfl rfl ?_ entInfoS (by kernel_rfl) ?_; exact RR.out.there 2 (Nat.le_refl _))
        have B6 := below_setCells (b := w.heap.size + 1) (Nat.le_succ w.heap.size) [.string ⟨#[]⟩, .int .i64 0] 0 _ BR.out
        refine bodyPost_ret (v := .tuple #[.agg ([.string ⟨#[]⟩, .int .i64 0] : List Value).toArray, .int .i64 2]) (results_cellT rfl _ _ (w.heap.size + 1) _ _ _ rfl rfl (World.rangeAt_setCells_same _ _ 0 _ (RR.out.there 2 (Nat.le_refl _))) Tryd.underlying40 rfl entInfoS) rfl ?_
        exact ⟨by unfold childC; rw [PC.out]; rfl, B6⟩
      | succ i =>
        obtain rfl : fb = true := HF.out.2 (by omega)
        obtain ⟨⟨x9, p9⟩, h9⟩ : ∃ e, v.ents.getD i e0 = e := ⟨_, rfl⟩
        have HC := Lib.hid (show childI v key = if inI v key = true then some (x9, p9) else none from by rw [childV_eq PL.out, if_neg (Nat.succ_ne_zero i), Nat.add_sub_cancel, h9])
        have OX := Lib.hid (show HB (w.heap.size + 1 + 1) (entObj (x9, p9)) wr from by have h := OR.out; unfold lastE at h; rw [if_neg (Nat.succ_ne_zero i), Nat.add_sub_cancel, h9] at h; exact h)
        clear h9
        have u_0 := KR.out.cell 0
        have u_1 := KR.out.cell 1
        have u_2 := KR.out.cell 2
        have u_3 := KR.out.cell 3
        have u_4 := KR.out.cell 4
        have u_5 := KR.out.cell 5
        have u_6 := KR.out.cell 6
        have u_7 := KR.out.cell 7
        have u_8 := KR.out.cell 8
        simp at u_0 u_1 u_2 u_3 u_4 u_5 u_6 u_7 u_8
        go_wp2_with fail
        refine (fv _).mono ?_
        rintro ev w5 ⟨rfl, hs⟩
        have B5 := Lib.hid (BR.out.trans (hs.mono BR.out.size))
        have R5 := Lib.hid (RR.out.below hs)
        have O5 := Lib.hid (OX.out.below hs)
        clear hs u_0 u_1 u_2 u_3 u_4 u_5 u_6 u_7 u_8
        cases hin : inI v key with
        | false =>
          have PC := Lib.hid (show childI v key = none from by rw [HC.out, hin]; rfl)
          clear hin
          go_wp2_with (refine wpList_store_mid rfl 40 (.tmp 4) (.tmp 41) rfl (w.heap.size + 1) 0 ([.string ⟨#[]⟩, .int .i64 0] : List Value).toArray rfl rfl ?_ entInfoS (by kernel_rfl) ?_; exact R5.out.there 2 (Nat.le_refl _))
          have B6 := below_setCells (b := w.heap.size + 1) (Nat.le_succ w.heap.size) [.string ⟨#[]⟩, .int .i64 0] 0 _ B5.out
          refine bodyPost_ret (v := .tuple #[.agg ([.string ⟨#[]⟩, .int .i64 0] : List Value).toArray, .int .i64 2]) (results_cellT rfl _ _ (w.heap.size + 1) _ _ _ rfl rfl (World.rangeAt_setCells_same _ _ 0 _ (R5.out.there 2 (Nat.le_refl _))) Tryd.underlying40 rfl entInfoS) rfl ?_
          exact ⟨by unfold childC; rw [PC.out]; rfl, B6⟩
        | true =>
          have PC := Lib.hid (show childI v key = some (x9, p9) from by rw [HC.out, hin]; rfl)
          clear hin
          have x0 := O5.out.cell 0
          have x1 := O5.out.cell 1
          simp at x0 x1
          go_wp2_with (refine wpList_store_mid rfl 40 (.tmp 4) (.tmp 42) rfl (w.heap.size + 1) 0 ([.string x9, .int .i64 p9] : List Value).toArray rfl rfl ?_ entInfoS (by kernel_rfl) ?_; exact R5.out.there 2 (Nat.le_refl _))
          have B6 := below_setCells (b := w.heap.size + 1) (Nat.le_succ w.heap.size) [.string x9, .int .i64 p9] 0 _ B5.out
          refine bodyPost_ret (v := .tuple #[.agg ([.string x9, .int .i64 p9] : List Value).toArray, .int .i64 0]) (results_cellT rfl _ _ (w.heap.size + 1) _ _ _ rfl rfl (World.rangeAt_setCells_same _ _ 0 _ (R5.out.there 2 (Nat.le_refl _))) Tryd.underlying40 rfl entInfoS) rfl ?_
          exact ⟨by unfold childC; rw [PC.out]; rfl, B6⟩
set_option maxRecDepth 100000 in
set_option maxHeartbeats 4000000 in
theorem refHold_any (v : IvD) (en : Value) (page : Int) (w : World) (hv : SV lEnt w en v.ents) :
    Calls Tryd.prog 14 #[ivVal v en, .int .i64 page] w fun ev w' => ev = .returned (.tuple #[(holdE v page).1, .int .i64 (holdE v page).2]) ∧ Below w.heap.size w w' := by
  obtain ⟨a, c, rfl, hlc, hcm⟩ := hv.lenform
  obtain ⟨n, hn⟩ : ∃ n, v.ents.length = n := ⟨_, rfl⟩
  have LN := Lib.hid hn
  rw [hn] at hv hlc ⊢
  unfold maxLen at hcm
  obtain ⟨W0, hW0⟩ : ∃ W, W = (w.alloc (ivObjR v (.slice a n c))).alloc hdZ := ⟨_, rfl⟩
  have B0 := Lib.hid (show Below w.heap.size w W0 by rw [hW0]; exact alloc2_below _ _ _)
  have K0 := Lib.hid (show HB w.heap.size (ivObjR v (.slice a n c)) W0 by rw [hW0]; exact HB.fst _ _ _)
  have R0 := Lib.hid (show HB (w.heap.size + 1) hdZ W0 by rw [hW0]; exact HB.snd _ _ _)
  have E0 := Lib.hid (hv.below B0.out)
  have EW := Lib.hid hv
  have v_4 : W0.cell? ⟨w.heap.size, 4, none⟩ = some (.slice a n c) := K0.out.cell 4
  unfold ivObjR hdZ at hW0
  clear hv hn
  unfold ivVal
  go_enter Tryd.func14, Tryd.ntmps14
  go_wp2
  rw [← hW0]
  clear hW0
  go_loopg [6] n (fun m vi wr => ∃ k : Nat, k + m = n + 1 ∧ 1 ≤ k ∧ vi = .int .i64 k ∧ (∀ j, 1 ≤ j → j < k → (v.ents.getD j e0).2 ≠ page) ∧ Below W0.heap.size W0 wr)
  case atStart => exact ⟨1, by omega, by omega, rfl, fun j h1 h2 => by omega, Below.refl _ _⟩
  case round =>
    obtain ⟨k, hk, h1, rfl, hf, hB⟩ := hrel
    have A := Lib.hid (show (∀ j, 1 ≤ j → j < k → (v.ents.getD j e0).2 ≠ page) ∧ Below W0.heap.size W0 wr ∧ k + gk = n + 1 from ⟨hf, hB, hk⟩)
    have w_4 := cell_step v_4 hB
    clear hf hB v_4
    by_cases hlt : k < n
    · obtain ⟨b, off, ha⟩ := E0.out.addr (by rw [LN.out]; omega)
      subst ha
      obtain ⟨i, rfl⟩ : ∃ i, k = i + 1 := ⟨k - 1, by omega⟩
      have hx := mem_at (es := v.ents) (i := i + 1) (by rw [LN.out]; exact hlt)
      have hy := mem_at (es := v.ents) (i := i) (by rw [LN.out]; omega)
      obtain ⟨⟨x, p⟩, he⟩ : ∃ e, v.ents.getD (i + 1) e0 = e := ⟨_, rfl⟩
      obtain ⟨⟨y, q⟩, hf⟩ : ∃ e, v.ents.getD i e0 = e := ⟨_, rfl⟩
      rw [he] at hx
      rw [hf] at hy
      have HE := Lib.hid (And.intro he hf)
      have x0 := cell_step (E0.out.cellAt (j := 0) hx rfl) A.out.2.1
      have x1 := cell_step (E0.out.cellAt (j := 1) hx rfl) A.out.2.1
      have y1 := cell_step (E0.out.cellAt (j := 1) hy rfl) A.out.2.1
      have ZY := Lib.hid (And.intro (EW.out.cellAt (j := 1) hy rfl) (EW.out.cellAt (j := 0) hx rfl))
      simp only [lEnt, Nat.add_zero] at x0 x1 y1 ZY
      have e1 : (((i + 1 : Nat) : Int)) = (i : Int) + 1 := rfl
      rw [e1]
      clear e1
      have j1 : (0 : Int) ≤ (i : Int) := by omega
      have j2 : (i : Int) + 1 < (n : Int) := by omega
      clear hx hy he hf
      by_cases hpp : p = page
      · have hyb : (p == page) = true := by rw [hpp]; simp
        have PE := Lib.hid (show pageE v.ents page = some i from pageE_at v.ents page i (by rw [LN.out]; exact hlt) (by rw [HE.out.1]; exact hpp) A.out.1)
        have HH := Lib.hid (show holdE v page = (hdVal page q x, 0) by unfold holdE; rw [PE.out]; simp only [HE.out.1, HE.out.2])
        have R2 := Lib.hid (R0.out.below A.out.2.1)
        clear hpp
        have j3 : (0 : Int) ≤ (i : Int) + 1 := by omega
        have j4 : (i : Int) < (n : Int) := by omega
        have j5 : IntKind.i64.wrap (i : Int) = (i : Int) := Go.IntWalk.i64_in _ (by omega)
        go_wp2_with fail
        have SD := Lib.hid (show (fun w' => w'.cell? ⟨w.heap.size, 4, none⟩ = some (.slice (some ⟨b, off, none⟩) n c) ∧ w'.cell? ⟨b, off + i * 2 + 1, none⟩ = some (.int .i64 q) ∧ w'.cell? ⟨b, off + (i + 1) * 2, none⟩ = some (.string x)) wr.drew from ⟨w_4, y1, x0⟩)
        have RD := Lib.hid R2.out.drew
        refine AnyBut.region (fun w' => w'.cell? ⟨w.heap.size, 4, none⟩ = some (.slice (some ⟨b, off, none⟩) n c) ∧ w'.cell? ⟨b, off + i * 2 + 1, none⟩ = some (.int .i64 q) ∧ w'.cell? ⟨b, off + (i + 1) * 2, none⟩ = some (.string x)) 16 (by kernel_rfl) ?_
        refine AnyBut.take (i := 0) (oi := ⟨some 22, _, _, _, _, none⟩) (v := ?va0) rfl (by kernel_rfl) (by kernel_rfl) (by kernel_rfl) (by kernel_rfl) (fun _ _ _ h => h) (Or.inl ⟨by rfl, ?hya0⟩) SD.out ?resta0
        case hya0 => (intro w hSw; go_simp; try (with_reducible rfl))
        simp only [Act.put, List.setIfInBounds_toArray, List.set_cons_zero, List.set_cons_succ]
        refine AnyBut.take (i := 1) (oi := ⟨some 23, _, _, _, _, none⟩) (v := ?va1) rfl (by kernel_rfl) (by kernel_rfl) (by kernel_rfl) (by kernel_rfl) (fun _ _ _ h => h) (Or.inl ⟨by rfl, ?hya1⟩) SD.out ?resta1
        case hya1 => (intro w hSw; go_simp; try (with_reducible rfl))
        simp only [Act.put, List.setIfInBounds_toArray, List.set_cons_zero, List.set_cons_succ]
        refine AnyBut.take (i := 2) (oi := ⟨some 24, _, _, _, _, none⟩) (v := ?va2) rfl (by kernel_rfl) (by kernel_rfl) (by kernel_rfl) (by kernel_rfl) (fun _ _ _ h => h) (Or.inl ⟨by rfl, ?hya2⟩) SD.out ?resta2
        case hya2 => (intro w hSw; go_simp; try (with_reducible rfl))
        simp only [Act.put, List.setIfInBounds_toArray, List.set_cons_zero, List.set_cons_succ]
        refine AnyBut.take (i := 3) (oi := ⟨some 25, _, _, _, _, none⟩) (v := ?va3) rfl (by kernel_rfl) (by kernel_rfl) (by kernel_rfl) (by kernel_rfl) (fun _ _ _ h => h) (Or.inl ⟨by rfl, ?hya3⟩) SD.out ?resta3
        case hya3 => (intro w hSw; go_simp; try (with_reducible rfl))
        simp only [Act.put, List.setIfInBounds_toArray, List.set_cons_zero, List.set_cons_succ]
        refine AnyBut.take (i := 4) (oi := ⟨some 26, _, _, _, _, none⟩) (v := ?va4) rfl (by kernel_rfl) (by kernel_rfl) (by kernel_rfl) (by kernel_rfl) (fun _ _ _ h => h) (Or.inl ⟨by rfl, ?hya4⟩) SD.out ?resta4
        case hya4 => (intro w hSw; go_simp; try (with_reducible rfl))
        simp only [Act.put, List.setIfInBounds_toArray, List.set_cons_zero, List.set_cons_succ]
        refine AnyBut.take (i := 5) (oi := ⟨some 27, _, _, _, _, none⟩) (v := ?va5) rfl (by kernel_rfl) (by kernel_rfl) (by kernel_rfl) (by kernel_rfl) (fun _ _ _ h => h) (Or.inl ⟨by rfl, ?hya5⟩) SD.out ?resta5
        case hya5 => (intro w hSw; go_simp; try (with_reducible rfl))
        simp only [Act.put, List.setIfInBounds_toArray, List.set_cons_zero, List.set_cons_succ]
        refine AnyBut.take (i := 6) (oi := ⟨some 28, _, _, _, _, none⟩) (v := ?va6) rfl (by kernel_rfl) (by kernel_rfl) (by kernel_rfl) (by kernel_rfl) (fun _ _ _ h => h) (Or.inl ⟨by rfl, ?hya6⟩) SD.out ?resta6
        case hya6 => (intro w hSw; go_simp; try (with_reducible rfl))
        simp only [Act.put, List.setIfInBounds_toArray, List.set_cons_zero, List.set_cons_succ]
        refine AnyBut.take (i := 7) (oi := ⟨some 29, _, _, _, _, none⟩) (v := ?va7) rfl (by kernel_rfl) (by kernel_rfl) (by kernel_rfl) (by kernel_rfl) (fun _ _ _ h => h) (Or.inl ⟨by rfl, ?hya7⟩) SD.out ?resta7
        case hya7 => (intro w hSw; go_simp; try (with_reducible rfl))
        simp only [Act.put, List.setIfInBounds_toArray, List.set_cons_zero, List.set_cons_succ]
        refine AnyBut.take (i := 8) (oi := ⟨some 30, _, _, _, _, none⟩) (v := ?va8) rfl (by kernel_rfl) (by kernel_rfl) (by kernel_rfl) (by kernel_rfl) (fun _ _ _ h => h) (Or.inl ⟨by rfl, ?hya8⟩) SD.out ?resta8
        case hya8 => (intro w hSw; go_simp; try (with_reducible rfl))
        simp only [Act.put, List.setIfInBounds_toArray, List.set_cons_zero, List.set_cons_succ]
        refine AnyBut.take (i := 9) (oi := ⟨some 31, _, _, _, _, none⟩) (v := ?va9) rfl (by kernel_rfl) (by kernel_rfl) (by kernel_rfl) (by kernel_rfl) (fun _ _ _ h => h) (Or.inl ⟨by rfl, ?hya9⟩) SD.out ?resta9
        case hya9 => (intro w hSw; go_simp; try (with_reducible rfl))
        simp only [Act.put, List.setIfInBounds_toArray, List.set_cons_zero, List.set_cons_succ]
        refine AnyBut.take (i := 10) (oi := ⟨some 32, _, _, _, _, none⟩) (v := ?va10) rfl (by kernel_rfl) (by kernel_rfl) (by kernel_rfl) (by kernel_rfl) (fun _ _ _ h => h) (Or.inl ⟨by rfl, ?hya10⟩) SD.out ?resta10
        case hya10 => (intro w hSw; go_simp; try (with_reducible rfl))
        simp only [Act.put, List.setIfInBounds_toArray, List.set_cons_zero, List.set_cons_succ]
        refine AnyBut.take (i := 11) (oi := ⟨some 33, _, _, _, _, none⟩) (v := ?va11) rfl (by kernel_rfl) (by kernel_rfl) (by kernel_rfl) (by kernel_rfl) (fun _ _ _ h => h) (Or.inl ⟨by rfl, ?hya11⟩) SD.out ?resta11
        case hya11 => (intro w hSw; go_simp; try (with_reducible rfl))
        simp only [Act.put, List.setIfInBounds_toArray, List.set_cons_zero, List.set_cons_succ]
        refine AnyBut.take (i := 12) (oi := ⟨some 34, _, _, _, _, none⟩) (v := ?va12) rfl (by kernel_rfl) (by kernel_rfl) (by kernel_rfl) (by kernel_rfl) (fun _ _ _ h => h) (Or.inl ⟨by rfl, ?hya12⟩) SD.out ?resta12
        case hya12 => (intro w hSw; go_simp; try (with_reducible rfl))
        simp only [Act.put, List.setIfInBounds_toArray, List.set_cons_zero, List.set_cons_succ]
        refine AnyBut.take (i := 13) (oi := ⟨some 35, _, _, _, _, none⟩) (v := ?va13) rfl (by kernel_rfl) (by kernel_rfl) (by kernel_rfl) (by kernel_rfl) (fun _ _ _ h => h) (Or.inl ⟨by rfl, ?hya13⟩) SD.out ?resta13
        case hya13 => (intro w hSw; go_simp; try (with_reducible rfl))
        simp only [Act.put, List.setIfInBounds_toArray, List.set_cons_zero, List.set_cons_succ]
        refine AnyBut.take (i := 14) (oi := ⟨some 36, _, _, _, _, none⟩) (v := ?va14) rfl (by kernel_rfl) (by kernel_rfl) (by kernel_rfl) (by kernel_rfl) (fun _ _ _ h => h) (Or.inl ⟨by rfl, ?hya14⟩) SD.out ?resta14
        case hya14 => (intro w hSw; go_simp; try (with_reducible rfl))
        simp only [Act.put, List.setIfInBounds_toArray, List.set_cons_zero, List.set_cons_succ]
        refine AnyBut.one (i := 15) (o := ⟨none, _, _, _, _, none⟩) (by kernel_rfl) rfl (fun K hK => ?_)
        rw [if_pos (by rfl)]
        refine wp_store_mid 24 (.tmp 4) (.tmp 36) rfl (w.heap.size + 1) 0 ([.int .i64 page, .int .i64 q, .string x] : List Value).toArray rfl rfl (RD.out.there 3 (Nat.le_refl _)) hdInfoS (by kernel_rfl) ?_
        have hBw := Lib.hid (B0.out.trans ((A.out.2.1.mono B0.out.size)))
        have B6 := Lib.hid (below_setCells (b := w.heap.size + 1) (Nat.le_succ w.heap.size) [.int .i64 page, .int .i64 q, .string x] 0 _ hBw.out.drew)
        have K6 := Lib.hid (((K0.out.below A.out.2.1).drew).off (b2 := w.heap.size + 1) (by omega) [.int .i64 page, .int .i64 q, .string x] 0)
        skip
        refine hK.out _ _ (fun _ => ⟨K6.out.cell 4, ?_, ?_⟩) ?_
        · exact (B6.out.cell (lt_of_cell ZY.out.1)).trans ZY.out.1
        · exact (B6.out.cell (lt_of_cell ZY.out.2)).trans ZY.out.2
        clear hK K
        try simp only [Act.put]
        refine AnyBut.one (i := 16) (o := ⟨some 5, _, _, _, _, none⟩) (by kernel_rfl) rfl (fun K hK => ?_)
        go_simp
        refine hK.out _ _ (fun h => absurd rfl h) ?_
        clear hK K
        try simp only [Act.put, List.setIfInBounds_toArray, List.set_cons_zero, List.set_cons_succ]
        refine AnyBut.done (by kernel_rfl) ?_ _
        go_wp2
        refine bodyPost_ret (v := .tuple #[.agg ([.int .i64 page, .int .i64 q, .string x] : List Value).toArray, .int .i64 0]) (results_cellT rfl _ _ (w.heap.size + 1) _ _ _ rfl rfl (World.rangeAt_setCells_same _ _ 0 _ (RD.out.there 3 (Nat.le_refl _))) Tryd.underlying24 rfl hdInfoS) rfl ?_
        exact ⟨by rw [HH.out]; rfl, B6.out⟩
      · have hyb : (p == page) = false := by rw [beq_eq_false_iff_ne]; exact hpp
        have G := Lib.hid (show ∀ j, 1 ≤ j → j < i + 1 + 1 → (v.ents.getD j e0).2 ≠ page from fun j h1 h2 => by
          rcases Nat.lt_or_eq_of_le (Nat.lt_succ_iff.1 h2) with h | h
          · exact A.out.1 j h1 h
          · rw [h, HE.out.1]; exact hpp)
        clear hpp
        go_wp2
        go_roundg (n - (i + 1))
        case measure => have := A.out.2.2; omega
        case rel => exact ⟨i + 1 + 1, by omega, by omega, by go_num, G.out, A.out.2.1⟩
    · have PE := Lib.hid (show pageE v.ents page = none from pageE_no v.ents page (fun j h1 h2 => A.out.1 j h1 (by have := LN.out; omega)))
      have HH := Lib.hid (show holdE v page = (hdVal 0 0 ⟨#[]⟩, 6) by unfold holdE; rw [PE.out])
      have R2 := Lib.hid (R0.out.below A.out.2.1)
      have B3 := Lib.hid (B0.out.trans (A.out.2.1.mono B0.out.size))
      go_wp2_with (refine wpList_store_mid rfl 24 (.tmp 4) (.tmp 37) rfl (w.heap.size + 1) 0 ([.int .i64 0, .int .i64 0, .string ⟨#[]⟩] : List Value).toArray rfl rfl ?_ hdInfoS (by kernel_rfl) ?_; exact R2.out.there 3 (Nat.le_refl _))
      have B6 := below_setCells (b := w.heap.size + 1) (Nat.le_succ w.heap.size) [.int .i64 0, .int .i64 0, .string ⟨#[]⟩] 0 _ B3.out
      refine bodyPost_ret (v := .tuple #[.agg ([.int .i64 0, .int .i64 0, .string ⟨#[]⟩] : List Value).toArray, .int .i64 6]) (results_cellT rfl _ _ (w.heap.size + 1) _ _ _ rfl rfl (World.rangeAt_setCells_same _ _ 0 _ (R2.out.there 3 (Nat.le_refl _))) Tryd.underlying24 rfl hdInfoS) rfl ?_
      exact ⟨by rw [HH.out]; rfl, B6⟩
/-! ### rising -/
set_option maxRecDepth 100000 in
set_option maxHeartbeats 4000000 in
theorem rising_any (en : Value) (es : List En) (w : World) (hv : SV lEnt w en es) :
    Calls Tryd.prog 8 #[en] w fun ev w' => ∃ b, ev = .returned (.bool b) ∧ (b = true → risE none es = true) ∧ Below w.heap.size w w' := by
  obtain ⟨a, c, rfl, hlc, hcm⟩ := hv.lenform
  obtain ⟨n, hn⟩ : ∃ n, es.length = n := ⟨_, rfl⟩
  have LN := Lib.hid hn
  rw [hn] at hv hlc ⊢
  unfold maxLen at hcm
  have E0 := Lib.hid hv
  clear hv hn
  go_enter Tryd.func8, Tryd.ntmps8
  go_wp2
  go_loopg [3] n (fun m vi wr => ∃ k : Nat, k + m = n + 1 ∧ 1 ≤ k ∧ vi = .int .i64 k ∧ (∀ j, j + 1 < k → bef (es.getD j e0).1.data.toList (es.getD (j + 1) e0).1.data.toList = true) ∧ Below w.heap.size w wr)
  case atStart => exact ⟨1, by omega, by omega, rfl, fun j h => by omega, Below.refl _ _⟩
  case round =>
    obtain ⟨k, hk, h1, rfl, hf, hB⟩ := hrel
    have A := Lib.hid (show Below w.heap.size w wr ∧ k + gk = n + 1 from ⟨hB, hk⟩)
    have F := Lib.hid hf
    clear hB hf
    by_cases hlt : k < n
    · obtain ⟨b, off, ha⟩ := E0.out.addr (by rw [LN.out]; omega)
      subst ha
      obtain ⟨i, rfl⟩ : ∃ i, k = i + 1 := ⟨k - 1, by omega⟩
      have hx := mem_at (es := es) (i := i + 1) (by rw [LN.out]; exact hlt)
      have hy := mem_at (es := es) (i := i) (by rw [LN.out]; omega)
      obtain ⟨⟨x, p⟩, he⟩ : ∃ e, es.getD (i + 1) e0 = e := ⟨_, rfl⟩
      obtain ⟨⟨y, q⟩, hf⟩ : ∃ e, es.getD i e0 = e := ⟨_, rfl⟩
      rw [he] at hx
      rw [hf] at hy
      have x0 := cell_step (E0.out.cellAt (j := 0) hx rfl) A.out.1
      have y0 := cell_step (E0.out.cellAt (j := 0) hy rfl) A.out.1
      simp only [lEnt, Nat.add_zero] at x0 y0
      have j1 : (0 : Int) ≤ (i : Int) := by omega
      have j2 : (i : Int) + 1 < (n : Int) := by omega
      have j3 : (((i + 1 : Nat) : Int)) - 1 = (i : Int) := by omega
      have HE := Lib.hid (And.intro he hf)
      clear hx hy he hf
      have eb : Op.bytesLess y.toList x.toList = bef y.data.toList x.data.toList := by rw [bytesLess_bef, ByteArray.toList_eq, ByteArray.toList_eq]
      go_wp2
      go_quiet (fail)
      clear eb
      cases hb : bef y.data.toList x.data.toList with
      | true =>
        have G := Lib.hid (show ∀ j, j + 1 < i + 1 + 1 → bef (es.getD j e0).1.data.toList (es.getD (j + 1) e0).1.data.toList = true from fun j h => by
          rcases Nat.lt_or_eq_of_le (Nat.lt_succ_iff.1 h) with h | h
          · exact F.out j h
          · obtain rfl : j = i := by omega
            rw [HE.out.1, HE.out.2]; exact hb)
        clear hb
        try simp only [Bool.not_true]
        go_wp2
        go_roundg (n - (i + 1))
        case measure => have := A.out.2; omega
        case rel => exact ⟨i + 1 + 1, by omega, by omega, by go_num, G.out, below_drewN A.out.1 _⟩
      | false =>
        clear hb
        try simp only [Bool.not_false]
        go_wp2
        go_ret
        exact ⟨false, rfl, fun h => (by cases h), below_drewN A.out.1 _⟩
    · have G := Lib.hid (risE_adj es (fun j h => F.out j (by have := LN.out; omega)))
      go_wp2
      go_ret
      exact ⟨true, rfl, fun _ => G.out, A.out.1⟩
end Go.Proofs.YtkkmfacngmginaaDoor
