/- Package arena's New, by contracts. -/
import Derived.Test.YtaiaaljahnackaaMm
import Derived.Test.YtaiaaljahnackaaArInv
namespace Go.Proofs.Ytaiaaljahnackaa
open Go.RowKit

set_option maxRecDepth 100000 in
set_option maxHeartbeats 4000000 in
theorem ar_find_out (w : World) (ab sb n : Nat) (x y : Int) (ha0 : w.cell? ⟨ab, 0, none⟩ = some (.slice (some ⟨sb, 0, none⟩) n n)) (h : x < 1 ∨ (n : Int) < x) :
    Calls Try.prog 66 #[.pointer (some ⟨ab, 0, none⟩), refV x y] w fun ev w' => ev = .returned (.tuple #[.pointer none, .iface 72 (.int .i64 1)]) ∧ Below w.heap.size w w' := by
  have b1 := alloc_below0 w (.cells #[.int .i64 x, .int .i64 y] 34)
  have c0 := cell_step ha0 b1
  have B := Lib.hid b1
  clear ha0 b1
  unfold refV
  by_cases hx : x < 1
  · clear h
    go_enter Try.func66, Try.ntmps66
    go_wp2
    go_quiet (fail)
    go_wp2
    go_ret2
    exact ⟨rfl, below_drewN B.out _⟩
  · have hx2 : (n : Int) < x := by omega
    clear h
    go_enter Try.func66, Try.ntmps66
    go_wp2
    go_quiet (fail)
    go_wp2
    go_ret2
    exact ⟨rfl, below_drewN B.out _⟩
set_option maxRecDepth 100000 in
set_option maxHeartbeats 4000000 in
theorem ar_find_free (w : World) (ab sb n i : Nat) (l g y : Int) (hi : i < n) (hn : n ≤ 4096) (h : SlAt w ab sb n i l g none) :
    Calls Try.prog 66 #[.pointer (some ⟨ab, 0, none⟩), refV ((i : Int) + 1) y] w fun ev w' => ev = .returned (.tuple #[.pointer none, .iface 72 (.int .i64 4)]) ∧ Below w.heap.size w w' := by
  have b1 := alloc_below0 w (.cells #[.int .i64 ((i : Int) + 1), .int .i64 y] 34)
  have H := h.step b1
  have c0 := H.a0
  have c2 := H.c2
  have B := Lib.hid b1
  clear h b1 H
  unfold refV
  have i0 : IntKind.i64.wrap ((i : Int) + 1 - 1) = (i : Int) := by rw [show (i : Int) + 1 - 1 = i by omega]; exact Go.IntWalk.i64_in _ (by omega)
  have j1 : ¬ (i : Int) + 1 < 1 := by omega
  have j2 : ¬ (n : Int) < (i : Int) + 1 := by omega
  have j3 : (0 : Int) ≤ (i : Int) := by omega
  have j4 : (i : Int) < (n : Int) := by omega
  go_enter Try.func66, Try.ntmps66
  go_wp2
  go_quiet (fail)
  go_wp2
  go_quiet (fail)
  go_wp2
  go_quiet (fail)
  go_wp2
  go_ret2
  exact ⟨rfl, below_drewN B.out _⟩
set_option maxRecDepth 100000 in
set_option maxHeartbeats 4000000 in
theorem ar_find_hit (w : World) (ab sb n i q : Nat) (l g : Int) (hi : i < n) (hn : n ≤ 4096) (h : SlAt w ab sb n i l g (some ⟨q, 0, none⟩)) :
    Calls Try.prog 66 #[.pointer (some ⟨ab, 0, none⟩), refV ((i : Int) + 1) g] w fun ev w' => ev = .returned (.tuple #[.pointer (some ⟨sb, i * 3, none⟩), .nilIface]) ∧ Below w.heap.size w w' := by
  have b1 := alloc_below0 w (.cells #[.int .i64 ((i : Int) + 1), .int .i64 g] 34)
  have H := h.step b1
  have c0 := H.a0
  have c2 := H.c2
  have c3 := H.c0
  have c4 := H.c1
  have B := Lib.hid b1
  clear h b1 H
  unfold refV
  have i0 : IntKind.i64.wrap ((i : Int) + 1 - 1) = (i : Int) := by rw [show (i : Int) + 1 - 1 = i by omega]; exact Go.IntWalk.i64_in _ (by omega)
  have j1 : ¬ (i : Int) + 1 < 1 := by omega
  have j2 : ¬ (n : Int) < (i : Int) + 1 := by omega
  have j3 : (0 : Int) ≤ (i : Int) := by omega
  have j4 : (i : Int) < (n : Int) := by omega
  have e1 : ((i : Int) + 1 == (i : Int) + 1) = true := by simp
  have e2 : (g == g) = true := by simp
  go_enter Try.func66, Try.ntmps66
  go_wp2
  go_quiet (fail)
  go_wp2
  go_quiet (fail)
  go_wp2
  go_quiet (fail)
  go_wp2
  go_ret2
  exact ⟨rfl, below_drewN (below_drewN (below_drewN B.out _) _) _⟩
set_option maxRecDepth 100000 in
set_option maxHeartbeats 4000000 in
theorem find_gone (w : World) (ab sb n i q : Nat) (l g y : Int) (hi : i < n) (hn : n ≤ 4096) (h : SlAt w ab sb n i l g (some ⟨q, 0, none⟩)) (hy : g ≠ y) :
    Calls Try.prog 66 #[.pointer (some ⟨ab, 0, none⟩), refV ((i : Int) + 1) y] w fun ev w' => ev = .returned (.tuple #[.pointer none, .iface 72 (.int .i64 4)]) ∧ Below w.heap.size w w' := by
  have b1 := alloc_below0 w (.cells #[.int .i64 ((i : Int) + 1), .int .i64 y] 34)
  have H := h.step b1
  have c0 := H.a0
  have c2 := H.c2
  have c3 := H.c0
  have c4 := H.c1
  have B := Lib.hid b1
  clear h b1 H
  unfold refV
  have i0 : IntKind.i64.wrap ((i : Int) + 1 - 1) = (i : Int) := by rw [show (i : Int) + 1 - 1 = i by omega]; exact Go.IntWalk.i64_in _ (by omega)
  have j1 : ¬ (i : Int) + 1 < 1 := by omega
  have j2 : ¬ (n : Int) < (i : Int) + 1 := by omega
  have j3 : (0 : Int) ≤ (i : Int) := by omega
  have j4 : (i : Int) < (n : Int) := by omega
  have e1 : ((i : Int) + 1 == (i : Int) + 1) = true := by simp
  have e2 : (g == y) = false := by simp [hy]
  go_enter Try.func66, Try.ntmps66
  go_wp2
  go_quiet (fail)
  go_wp2
  go_quiet (fail)
  go_wp2
  go_quiet (fail)
  go_wp2
  go_ret2
  exact ⟨rfl, below_drewN B.out _⟩
/-- find over an arena: a live ref's slot, or why it has none -/
theorem ar_find_cases {w : World} {ab sb : Nat} {ss : List Sl} {S : Nat → Prop} {n l : Nat} {ps : List Pt} (I : InvAt w ab sb ss S n l ps) (x y : Int) :
    (∃ i q d j p, i < n ∧ x = (i : Int) + 1 ∧ y = ((stOf ps (i + 1)).1 : Int) ∧ (stOf ps (i + 1)).2 = some d ∧ codeM n ps x y = 0 ∧ findM ps x y = some j ∧ ps[j]? = some p ∧ p.rcd = d ∧ RecS w S q d ∧ SlAt w ab sb n i l y (some ⟨q, 0, none⟩) ∧ ss[i]? = some ((i : Int) + 1, y, some ⟨q, 0, none⟩)
      ∧ (∀ m, stOf (freeM n ps x y) m = if m = i + 1 then ((stOf ps (i + 1)).1, none) else stOf ps m)
      ∧ Calls Try.prog 66 #[.pointer (some ⟨ab, 0, none⟩), refV x y] w fun ev w' => ev = .returned (.tuple #[.pointer (some ⟨sb, i * 3, none⟩), .nilIface]) ∧ Below w.heap.size w w')
    ∨ (∃ e : Int, (e = 1 ∨ e = 4) ∧ codeM n ps x y = e ∧ Calls Try.prog 66 #[.pointer (some ⟨ab, 0, none⟩), refV x y] w fun ev w' => ev = .returned (.tuple #[.pointer none, .iface 72 (.int .i64 e)]) ∧ Below w.heap.size w w') := by
  have hn := okN_of I.ok
  by_cases hx : x < 1 ∨ (n : Int) < x
  · right
    refine ⟨1, .inl rfl, by unfold codeM; rw [if_pos hx], ?_⟩
    exact ar_find_out w ab sb n x y (blk_cell I.blkA 0) hx
  · obtain ⟨i, rfl⟩ : ∃ i : Nat, x = (i : Int) + 1 := ⟨(x - 1).toNat, by omega⟩
    have hi : i < n := by omega
    obtain ⟨p, h1, h2, h3⟩ := I.slot hi
    have hc : (((i + 1 : Nat) : Int)) = (i : Int) + 1 := by omega
    rw [hc] at h1
    rcases find_st I.val (i + 1) y with ⟨d, j, q, a1, a2, a3, a4, a5, a6⟩ | ⟨b1, b2⟩
    · left
      rw [a1] at h2
      obtain ⟨g, rfl, hr⟩ := h2
      rw [hc] at a3
      have hcode : codeM n ps ((i : Int) + 1) y = 0 := by unfold codeM; rw [if_neg hx, a3]; rfl
      have hfree : freeM n ps ((i : Int) + 1) y = ps.modify j (fun p => { p with live := false }) := by unfold freeM; rw [if_pos hcode, a3]
      rw [a2] at h1 h3
      exact ⟨i, g, d, j, q, hi, rfl, a2.symm, a1, hcode, a3, a4, a5, hr, h3, h1, by rw [hfree]; exact a6, ar_find_hit w ab sb n i g l y hi hn.2.1 h3⟩
    · right
      rw [hc] at b2
      refine ⟨4, .inr rfl, by unfold codeM; rw [if_neg hx, b2]; rfl, ?_⟩
      cases hs : (stOf ps (i + 1)).2 with
      | none =>
        rw [hs] at h2
        cases h2
        exact ar_find_free w ab sb n i l _ y hi hn.2.1 h3
      | some d =>
        rw [hs] at h2 b1
        obtain ⟨g, rfl, -⟩ := h2
        exact find_gone w ab sb n i g l _ y hi hn.2.1 h3 (b1.resolve_left (by simp))

open Go.RowKit

set_option maxRecDepth 100000 in
set_option maxHeartbeats 4000000 in
theorem worn_any (w : World) (ab : Nat) (l x g : Int) (p : Option Addr) (ha1 : w.cell? ⟨ab, 1, none⟩ = some (.int .i64 l)) :
    Calls Try.prog 68 #[.pointer (some ⟨ab, 0, none⟩), .agg #[.int .i64 x, .int .i64 g, .pointer p]] w fun ev w' => ev = .returned (.bool (decide (l ≤ g))) ∧ Below w.heap.size w w' := by
  have b1 := alloc_below0 w (.cells #[.int .i64 x, .int .i64 g, .pointer p] 107)
  have c1 := cell_step ha1 b1
  have B := Lib.hid b1
  clear ha1 b1
  go_enter Try.func68, Try.ntmps68
  go_wp2
  go_quiet (fail)
  go_wp2
  go_ret
  exact ⟨rfl, below_drewN B.out _⟩
theorem RecAt.other {w w' : World} {q base : Nat} {d : RecD} (h : RecAt w q base d) {T : Nat → Prop} (hk : Kept T w w') (hT : ∀ k, T k → k < base) (hq : base ≤ q) : RecAt w' q base d := by
  obtain ⟨rv, en, h1, h2, h3⟩ := h
  exact ⟨rv, en, (hk.block q (Array.getElem?_eq_some_iff.1 h1).1 (fun ht => by have := hT q ht; omega)).trans h1, h2.kept hk (h2.out hT), h3.kept hk (h3.out hT)⟩
theorem RecAt.mono {w : World} {q base b' : Nat} {d : RecD} (h : RecAt w q base d) (hb : b' ≤ base) : RecAt w q b' d := by
  obtain ⟨rv, en, h1, h2, h3⟩ := h
  exact ⟨rv, en, h1, h2.mono hb, h3.mono hb⟩
set_option maxRecDepth 100000 in
set_option maxHeartbeats 4000000 in
theorem put_any (w : World) (ab sb n i : Nat) (l g : Int) (ss : List Sl) (v : Value) (d : RecD) (hv : RecV w v d) (h1 : d.rows.length ≤ 1000) (h2 : d.ents.length ≤ 1000) (hi : ss[i]? = some ((i : Int) + 1, g, none)) (hg : 0 ≤ g ∧ g < 1099511627776)
    (h : SlAt w ab sb n i l g none) (ho : OwnS lSlot 0 w (.slice (some ⟨sb, 0, none⟩) n n) ss) :
    Calls Try.prog 69 #[.pointer (some ⟨sb, i * 3, none⟩), v] w fun ev w' => ∃ q, ev = .returned (refV ((i : Int) + 1) (g + 1)) ∧ w.heap.size ≤ q ∧ RecAt w' q w.heap.size d ∧
      OwnS lSlot 0 w' (.slice (some ⟨sb, 0, none⟩) n n) (ss.set i ((i : Int) + 1, g + 1, some ⟨q, 0, none⟩)) ∧ Kept (fun k => k = sb) w w' := by
  obtain ⟨sc, rows, ents⟩ := d
  obtain ⟨rv, en, rfl, hr, he⟩ := hv
  simp only at hr he h1 h2
  have L := Lib.hid (show rows.length ≤ 1000 ∧ ents.length ≤ 1000 from ⟨h1, h2⟩)
  obtain ⟨W, hW⟩ : ∃ W, W = (w.alloc (recObj sc rv en)).alloc (.cells #[.int .i64 0, .int .i64 0] 34) := ⟨_, rfl⟩
  have z1 : (w.alloc (recObj sc rv en)).heap.size = w.heap.size + 1 := by simp
  have b1 := alloc_below0 w (recObj sc rv en)
  have b2 := alloc_below0 (w.alloc (recObj sc rv en)) (.cells #[.int .i64 0, .int .i64 0] 34)
  have B := Lib.hid (show Below w.heap.size w W by rw [hW]; exact b1.trans (b2.mono b1.size))
  have Z := Lib.hid (show W.heap.size = w.heap.size + 2 by rw [hW]; simp)
  have K0 := blk_step (blk_new w (recObj sc rv en)) b2
  have K1 := Lib.hid (show W.heap[w.heap.size + 1]? = some (.cells #[.int .i64 0, .int .i64 0] 34 (0, 0)) by rw [hW, ← z1]; exact blk_new _ _)
  rw [← hW] at K0
  have R := Lib.hid (hr.below B.out)
  have E := Lib.hid (he.below B.out)
  have O := Lib.hid (ho.below B.out)
  have H := Lib.hid (h.step B.out)
  have SL := Lib.hid (show sb < w.heap.size from lt_of_cell h.c0)
  have HI := Lib.hid hi
  have hrng : W.rangeAt w.heap.size 0 (recCells sc rv en) := rec_range K0
  clear hr he h1 h2 b1 b2 z1 K0 ho h hi
  unfold recVal
  unfold recObj at hW
  go_enter Try.func69, Try.ntmps69
  go_wp2_with (refine wpList_load_mid rfl 44 (.tmp 3) rfl w.heap.size 0 rfl (recCells sc rv en) _ (by rw [← hW]; exact hrng) Try.underlying44 rfl (by kernel_rfl) ?_)
  rw [← hW]
  refine (own_any (.agg (recCells sc rv en).toArray) ⟨sc, rows, ents⟩ _ ⟨rv, en, rfl, R.out, E.out⟩ L.out.1 L.out.2).mono ?_
  rintro ev w1 ⟨q, rfl, hq, hrec, hs⟩
  have B1 := Lib.hid (B.out.trans (hs.mono B.out.size))
  have K2 := Lib.hid (blk_step K1.out hs)
  have O1 := Lib.hid (O.out.below hs)
  have H1 := Lib.hid (H.out.step hs)
  have QQ := Lib.hid (show w.heap.size + 2 ≤ q from Z.out ▸ hq)
  have RQ := Lib.hid hrec
  clear hs hW hrng hq hrec
  have c0 := H1.out.c0
  have c1 := H1.out.c1
  have c2 := H1.out.c2
  have f2 := O1.out.free (i * 3 + 2)
  have f1 := O1.out.free (i * 3 + 1)
  have k1 := blk_cell K2.out 0
  have k2 := blk_cell K2.out 1
  have k3 := blk_free K2.out 0
  have k4 := blk_free K2.out 1
  have i1 : IntKind.i64.wrap (g + 1) = g + 1 := Go.IntWalk.i64_in _ (by omega)
  have n1 : ¬ sb = w.heap.size + 1 := by have := SL.out; omega
  have n2 : ¬ w.heap.size + 1 = sb := by have := SL.out; omega
  go_wp2_with fail
  have k0 : Kept (fun k => k = sb ∨ k = w.heap.size + 1) w1 ((((w1.setCell ⟨sb, i * 3 + 2, none⟩ (.pointer (some ⟨q, 0, none⟩))).setCell ⟨sb, i * 3 + 1, none⟩ (.int .i64 (g + 1))).setCell ⟨w.heap.size + 1, 0, none⟩ (.int .i64 ((i : Int) + 1))).setCell ⟨w.heap.size + 1, 1, none⟩ (.int .i64 (g + 1))) :=
    ((((Kept.refl _ w1).setCell (i * 3 + 2) _).setCell (i * 3 + 1) _).trans2 (((Kept.refl _ _).setCell 0 _).setCell 1 _) (fun _ h => .inl h) (fun _ h => .inr h))
  have kk := ((((Kept.of_below (S := fun k => k = sb) (B1.out)).setCell (i * 3 + 2) (.pointer (some ⟨q, 0, none⟩))).setCell (i * 3 + 1) (.int .i64 (g + 1))).setNew (b := w.heap.size + 1) (by omega) 0 (.int .i64 ((i : Int) + 1))).setNew (b := w.heap.size + 1) (by omega) 1 (.int .i64 (g + 1))
  have s1 := O1.out.set (y := ((i : Int) + 1, g, some ⟨q, 0, none⟩)) (u := .pointer (some ⟨q, 0, none⟩)) HI.out (j := 2) (by decide) rfl
  have hlt : i < ss.length := (List.getElem?_eq_some_iff.1 HI.out).1
  have s2 := s1.set (x := ((i : Int) + 1, g, some ⟨q, 0, none⟩)) (y := ((i : Int) + 1, g + 1, some ⟨q, 0, none⟩)) (u := .int .i64 (g + 1)) (i := i) (by simp [hlt]) (j := 1) (by decide) rfl
  rw [List.set_set] at s2
  have s3 := (s2.setOther (b := w.heap.size + 1) (o := 0) (x := .int .i64 ((i : Int) + 1)) (fun k hk => by obtain rfl := Option.some.inj hk; exact n1)).setOther (b := w.heap.size + 1) (o := 1) (x := .int .i64 (g + 1)) (fun k hk => by obtain rfl := Option.some.inj hk; exact n1)
  have t1 := blk_set (blk_set (blk_off (blk_off K2.out n2 (i * 3 + 2) (.pointer (some ⟨q, 0, none⟩))) n2 (i * 3 + 1) (.int .i64 (g + 1))) 0 (.int .i64 ((i : Int) + 1))) 1 (.int .i64 (g + 1))
  have rq := RecAt.other RQ.out k0 (fun k hk => by have := Z.out; have := SL.out; omega) (by have := Z.out; have := QQ.out; omega)
  refine bodyPost_ret (v := .agg #[.int .i64 ((i : Int) + 1), .int .i64 (g + 1)]) (results_cell1 rfl _ _ (w.heap.size + 1) [.int .i64 ((i : Int) + 1), .int .i64 (g + 1)] _ rfl (fun j u hj => ?_) Try.underlying34 rfl (by kernel_rfl)) rfl ⟨q, rfl, by have := QQ.out; omega, rq.mono (by have := Z.out; omega), s3, kk⟩
  rw [Nat.zero_add, blk_cell t1, ← hj, ← Array.getElem?_toList]
  rfl

open Go.RowKit

set_option maxRecDepth 100000 in
set_option maxHeartbeats 4000000 in
theorem ar_new_no (n l : Int) (w : World) (h : okN n l = false) : Calls Try.prog 26 #[.int .i64 n, .int .i64 l] w fun ev w' => ev = .returned (.pointer none) ∧ Below w.heap.size w w' := by
  unfold okN at h
  by_cases h1 : n < 1
  · clear h
    go_enter Try.func26, Try.ntmps26
    go_wp2
    go_ret
    exact ⟨rfl, Below.refl _ _⟩
  · by_cases h2 : 4096 < n
    · clear h
      go_enter Try.func26, Try.ntmps26
      go_wp2
      go_ret
      exact ⟨rfl, Below.refl _ _⟩
    · by_cases h3 : l < 1
      · clear h
        go_enter Try.func26, Try.ntmps26
        go_wp2
        go_ret
        exact ⟨rfl, Below.refl _ _⟩
      · have h4 : 1099511627776 < l := by
          rw [decide_eq_true (show 1 ≤ n by omega), decide_eq_true (show n ≤ 4096 by omega), decide_eq_true (show 1 ≤ l by omega)] at h
          simp at h
          omega
        clear h
        go_enter Try.func26, Try.ntmps26
        go_wp2
        go_ret
        exact ⟨rfl, Below.refl _ _⟩
/-- the slots when the first k have their numbers -/
def fresh0 (n k : Nat) : List Sl := (List.range n).map fun i => (if i < k then ((i : Int) + 1) else 0, 0, none)
theorem fresh0_at {n k i : Nat} (h : i < n) : (fresh0 n k)[i]? = some (if i < k then ((i : Int) + 1) else 0, 0, none) := by
  unfold fresh0
  rw [List.getElem?_map, List.getElem?_range h]; rfl
theorem fresh0_len (n k : Nat) : (fresh0 n k).length = n := by simp [fresh0]
theorem fresh0_set {n k : Nat} (h : k < n) : fresh0 n (k + 1) = (fresh0 n k).set k ((k : Int) + 1, 0, none) := by
  apply List.ext_getElem?
  intro i
  by_cases hi : i < n
  · rw [fresh0_at hi, List.getElem?_set, fresh0_len, fresh0_at hi]
    by_cases e : k = i
    · subst e; simp [h]
    · rw [if_neg e]
      congr 3
      simp only [eq_iff_iff]
      omega
  · rw [List.getElem?_eq_none (by rw [fresh0_len]; omega), List.getElem?_eq_none (by rw [List.length_set, fresh0_len]; omega)]
theorem made_slots (n : Nat) : madeCells #[.int .i64 0, .int .i64 0, .pointer none] (n * 3) = (lSlot.flat (fresh0 n 0)).toArray := by
  apply Array.ext_getElem?
  intro i
  by_cases hi : i < n * 3
  · have hq : i / 3 < n := by omega
    have e := lSlot.flat_at (fresh0 n 0) (i / 3) (i % 3) _ (fresh0_at hq) (Nat.mod_lt _ (by decide))
    rw [show i / 3 * lSlot.sz + i % 3 = i from Nat.div_add_mod' i 3] at e
    rw [show (lSlot.flat (fresh0 n 0)).toArray[i]? = (lSlot.flat (fresh0 n 0))[i]? by simp, e]
    have h3 : i % 3 = 0 ∨ i % 3 = 1 ∨ i % 3 = 2 := by omega
    unfold madeCells
    rw [Array.getElem?_map, Array.getElem?_range, if_pos hi]
    rcases h3 with h | h | h <;> simp [h, lSlot]
  · rw [Array.getElem?_eq_none (by rw [size_madeCells]; omega), Array.getElem?_eq_none (by simp [Lay.flat_len, fresh0_len, lSlot]; omega)]
theorem run_makeSl (n : Nat) (hn : n ≤ 100000) (w : World) : (Instr.makeSlice 102 (.int .i64 (n : Int)) (.int .i64 (n : Int))).run Try.prog w = .ok (.slice (some ⟨w.heap.size, 0, none⟩) n n) (w.alloc (.cells (lSlot.flat (fresh0 n 0)).toArray 107)) := by
  obtain ⟨i, hi, hzz⟩ := Option.map_eq_some_iff.1 slotInfo
  simp only [Prod.mk.injEq] at hzz
  obtain ⟨hz, hs, hb⟩ := hzz
  have h := run_make (P := Try.prog) w 102 107 i _ Try.underlying102 hi hz .i64 .i64 n n (by omega) (Int.le_refl _) (by rw [hb]; omega) (by omega)
  simp only [Int.toNat_natCast, hs] at h
  rw [← made_slots]
  exact h
set_option maxRecDepth 100000 in
set_option maxHeartbeats 4000000 in
theorem ar_new_any (n l : Nat) (w : World) (h : okN n l = true) : Calls Try.prog 26 #[.int .i64 (n : Int), .int .i64 (l : Int)] w fun ev w' => ∃ a S, ev = .returned (.pointer (some a)) ∧ ArInv w' a S n l [] ∧ (∀ k, S k → w.heap.size ≤ k) ∧ Below w.heap.size w w' := by
  obtain ⟨g1, g2, g3, g4⟩ := okN_of h
  have OK := Lib.hid h
  have h1 : ¬ (n : Int) < 1 := by omega
  have h2 : ¬ (4096 : Int) < n := by omega
  have h3 : ¬ (l : Int) < 1 := by omega
  have h4 : ¬ (1099511627776 : Int) < l := by omega
  have hmk := run_makeSl n (by omega)
  clear h
  go_enter Try.func26, Try.ntmps26
  go_wp2
  go_loopg [27] n (fun r i wr => ∃ k : Nat, k + r = n ∧ i = .int .i64 k ∧ OwnS lSlot w.heap.size wr (.slice (some ⟨w.heap.size, 0, none⟩) n n) (fresh0 n k) ∧ wr.heap[w.heap.size + 1]? = some (.cells #[.slice (some ⟨w.heap.size, 0, none⟩) n n, .int .i64 (l : Int)] 104 (0, 0)) ∧ Below w.heap.size w wr)
  case atStart =>
    refine ⟨0, by omega, rfl, ?_, ?_, ?_⟩
    · have h := OwnS.lit lSlot w.heap.size w w.heap.size rfl (fresh0 n 0) (Nat.le_refl _) (by rw [fresh0_len]; simp [maxLen]; omega)
      rw [fresh0_len] at h
      exact h.below (alloc_below0 _ _)
    · have h := blk_new (w.alloc (.cells (lSlot.flat (fresh0 n 0)).toArray 107)) (.cells #[.slice (some ⟨w.heap.size, 0, none⟩) n n, .int .i64 (l : Int)] 104)
      rw [show (w.alloc (.cells (lSlot.flat (fresh0 n 0)).toArray 107)).heap.size = w.heap.size + 1 by simp] at h
      exact h
    · exact ((alloc_below0 w _).trans ((alloc_below0 _ _).mono (alloc_below0 w _).size))
  case round =>
    obtain ⟨k, hk, rfl, hO, hA, hB⟩ := hrel
    have A := Lib.hid (show _ ∧ _ ∧ _ ∧ k + gk = n from ⟨hO, hA, hB, hk⟩)
    have c0 : wr.cell? ⟨w.heap.size + 1, 0, none⟩ = some (.slice (some ⟨w.heap.size, 0, none⟩) n n) := blk_cell hA 0
    clear hA hB hO
    by_cases hlt : k < n
    · have i1 : IntKind.i64.wrap ((k : Int) + 1) = (k : Int) + 1 := Go.IntWalk.i64_in _ (by omega)
      have i2 : (0 : Int) ≤ (k : Int) := by omega
      have i3 : (k : Int) < (n : Int) := by omega
      have e0 := A.out.1.sv.cellAt (i := k) (j := 0) (fresh0_at hlt) rfl
      have f0 := A.out.1.free (k * 3)
      simp only [lSlot, Nat.zero_add, Nat.add_zero] at e0
      go_wp2
      go_roundg (n - (k + 1))
      case measure => have := A.out.2.2.2; omega
      case rel =>
        refine ⟨k + 1, by omega, by go_num, ?_, blk_off A.out.2.1 (by omega) _ _, below_set A.out.2.2.1 (Nat.le_refl _) _ _⟩
        rw [fresh0_set hlt]
        exact A.out.1.set (j := 0) (fresh0_at hlt) (by decide) (by simp [lSlot])
    · obtain rfl : k = n := by omega
      go_wp2
      go_ret
      refine ⟨_, fun j => j = w.heap.size ∨ j = w.heap.size + 1, rfl, ⟨_, w.heap.size, _, rfl, OK.out, Valid.nil k, GenLe.nil l, ?_, .inr rfl, .inl rfl, A.out.2.1, A.out.1.mono (Nat.zero_le _), fresh0_len k k, fun i hi => ⟨none, ?_, rfl⟩⟩, fun j hj => by omega, A.out.2.2.1⟩
      · have := (Array.getElem?_eq_some_iff.1 A.out.2.1).1
        intro j hj
        omega
      · rw [fresh0_at hi, if_pos hi]; rfl
end Go.Proofs.Ytaiaaljahnackaa
