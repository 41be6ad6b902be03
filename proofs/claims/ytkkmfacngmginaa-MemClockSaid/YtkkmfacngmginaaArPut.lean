/- Package arena's worn and put, by contracts. -/
import Derived.Test.YtkkmfacngmginaaMm
import Derived.Test.YtkkmfacngmginaaArFind
namespace Go.Proofs.Ytkkmfacngmginaa
open Go.RowKit

set_option maxRecDepth 100000 in
set_option maxHeartbeats 4000000 in
theorem worn_any (w : World) (ab : Nat) (l x g : Int) (p : Option Addr) (ha1 : w.cell? ⟨ab, 1, none⟩ = some (.int .i64 l)) :
    Calls Try.prog 93 #[.pointer (some ⟨ab, 0, none⟩), .agg #[.int .i64 x, .int .i64 g, .pointer p]] w fun ev w' => ev = .returned (.bool (decide (l ≤ g))) ∧ Below w.heap.size w w' := by
  have b1 := alloc_below0 w (.cells #[.int .i64 x, .int .i64 g, .pointer p] 145)
  have c1 := cell_step ha1 b1
  have B := Lib.hid b1
  clear ha1 b1
  go_enter Try.func93, Try.ntmps93
  go_wp2
  go_quiet (fail)
  go_wp2
  go_ret
  exact ⟨rfl, below_drewN B.out _⟩
theorem RecAt.other {w w' : World} {q base : Nat} {d : RecD} (h : RecAt w q base d) {T : Nat → Prop} (hk : Kept T w w') (hT : ∀ k, T k → k < base) (hq : base ≤ q) : RecAt w' q base d := by
  obtain ⟨rv, en, h1, h2, h3⟩ := h
  exact ⟨rv, en, (hk.block q (Array.getElem?_eq_some_iff.1 h1).1 (fun ht => by have := hT q ht; omega)).trans h1, h2.kept hk (h2.out hT), h3.kept hk (h3.out hT)⟩
theorem RecAt.mono {w : World} {q base b' : Nat} {d : RecD} (h : RecAt w q base d) (hb : b' ≤ base) : RecAt w q b' d := by
  obtain ⟨rv, en, h1, h2, h3⟩ := h
  exact ⟨rv, en, h1, h2.mono hb, h3.mono hb⟩
set_option maxRecDepth 100000 in
set_option maxHeartbeats 4000000 in
theorem put_any (w : World) (ab sb n i : Nat) (l g : Int) (ss : List Sl) (v : Value) (d : RecD) (hv : RecV w v d) (h1 : d.rows.length ≤ 1000) (h2 : d.ents.length ≤ 1000) (hi : ss[i]? = some ((i : Int) + 1, g, none)) (hg : 0 ≤ g ∧ g < 1099511627776)
    (h : SlAt w ab sb n i l g none) (ho : OwnS lSlot 0 w (.slice (some ⟨sb, 0, none⟩) n n) ss) :
    Calls Try.prog 94 #[.pointer (some ⟨sb, i * 3, none⟩), v] w fun ev w' => ∃ q, ev = .returned (refV ((i : Int) + 1) (g + 1)) ∧ w.heap.size ≤ q ∧ RecAt w' q w.heap.size d ∧
      OwnS lSlot 0 w' (.slice (some ⟨sb, 0, none⟩) n n) (ss.set i ((i : Int) + 1, g + 1, some ⟨q, 0, none⟩)) ∧ Kept (fun k => k = sb) w w' := by
  obtain ⟨sc, rows, ents⟩ := d
  obtain ⟨rv, en, rfl, hr, he⟩ := hv
  simp only at hr he h1 h2
  have L := Lib.hid (show rows.length ≤ 1000 ∧ ents.length ≤ 1000 from ⟨h1, h2⟩)
  obtain ⟨W, hW⟩ : ∃ W, W = (w.alloc (recObj sc rv en)).alloc (.cells #[.int .i64 0, .int .i64 0] 37) := ⟨_, rfl⟩
  have z1 : (w.alloc (recObj sc rv en)).heap.size = w.heap.size + 1 := by simp
  have b1 := alloc_below0 w (recObj sc rv en)
  have b2 := alloc_below0 (w.alloc (recObj sc rv en)) (.cells #[.int .i64 0, .int .i64 0] 37)
  have B := Lib.hid (show Below w.heap.size w W by rw [hW]; exact b1.trans (b2.mono b1.size))
  have Z := Lib.hid (show W.heap.size = w.heap.size + 2 by rw [hW]; simp)
  have K0 := blk_step (blk_new w (recObj sc rv en)) b2
  have K1 := Lib.hid (show W.heap[w.heap.size + 1]? = some (.cells #[.int .i64 0, .int .i64 0] 37 (0, 0)) by rw [hW, ← z1]; exact blk_new _ _)
  rw [← hW] at K0
  have R := Lib.hid (hr.below B.out)
  have E := Lib.hid (he.below B.out)
  have O := Lib.hid (ho.below B.out)
  have H := Lib.hid (h.step B.out)
  have SL := Lib.hid (show sb < w.heap.size from lt_of_cell h.c0)
  have HI := Lib.hid hi
  have hrng : W.rangeAt w.heap.size 0 (recCells sc rv en) := rec_range K0
  clear hr he h1 h2 b1 b2 z1 K0 ho h hi
  unfold recVal
  unfold recObj at hW
  go_enter Try.func94, Try.ntmps94
  go_wp2_with (refine wpList_load_mid rfl 39 (.tmp 3) rfl w.heap.size 0 rfl (recCells sc rv en) _ (by rw [← hW]; exact hrng) Try.underlying39 rfl (by kernel_rfl) ?_)
  rw [← hW]
  refine (own_any (.agg (recCells sc rv en).toArray) ⟨sc, rows, ents⟩ _ ⟨rv, en, rfl, R.out, E.out⟩ L.out.1 L.out.2).mono ?_
  rintro ev w1 ⟨q, rfl, hq, hrec, hs⟩
  have B1 := Lib.hid (B.out.trans (hs.mono B.out.size))
  have K2 := Lib.hid (blk_step K1.out hs)
  have O1 := Lib.hid (O.out.below hs)
  have H1 := Lib.hid (H.out.step hs)
  have QQ := Lib.hid (show w.heap.size + 2 ≤ q from Z.out ▸ hq)
  have RQ := Lib.hid hrec
  clear hs hW hrng hq hrec
  have c0 := H1.out.c0
  have c1 := H1.out.c1
  have c2 := H1.out.c2
  have f2 := O1.out.free (i * 3 + 2)
  have f1 := O1.out.free (i * 3 + 1)
  have k1 := blk_cell K2.out 0
  have k2 := blk_cell K2.out 1
  have k3 := blk_free K2.out 0
  have k4 := blk_free K2.out 1
  have i1 : IntKind.i64.wrap (g + 1) = g + 1 := Go.IntWalk.i64_in _ (by omega)
  have n1 : ¬ sb = w.heap.size + 1 := by have := SL.out; omega
  have n2 : ¬ w.heap.size + 1 = sb := by have := SL.out; omega
  go_wp2_with fail
  have k0 : Kept (fun k => k = sb ∨ k = w.heap.size + 1) w1 ((((w1.setCell ⟨sb, i * 3 + 2, none⟩ (.pointer (some ⟨q, 0, none⟩))).setCell ⟨sb, i * 3 + 1, none⟩ (.int .i64 (g + 1))).setCell ⟨w.heap.size + 1, 0, none⟩ (.int .i64 ((i : Int) + 1))).setCell ⟨w.heap.size + 1, 1, none⟩ (.int .i64 (g + 1))) :=
    ((((Kept.refl _ w1).setCell (i * 3 + 2) _).setCell (i * 3 + 1) _).trans2 (((Kept.refl _ _).setCell 0 _).setCell 1 _) (fun _ h => .inl h) (fun _ h => .inr h))
  have kk := ((((Kept.of_below (S := fun k => k = sb) (B1.out)).setCell (i * 3 + 2) (.pointer (some ⟨q, 0, none⟩))).setCell (i * 3 + 1) (.int .i64 (g + 1))).setNew (b := w.heap.size + 1) (by omega) 0 (.int .i64 ((i : Int) + 1))).setNew (b := w.heap.size + 1) (by omega) 1 (.int .i64 (g + 1))
  have s1 := O1.out.set (y := ((i : Int) + 1, g, some ⟨q, 0, none⟩)) (u := .pointer (some ⟨q, 0, none⟩)) HI.out (j := 2) (by decide) rfl
  have hlt : i < ss.length := (List.getElem?_eq_some_iff.1 HI.out).1
  have s2 := s1.set (x := ((i : Int) + 1, g, some ⟨q, 0, none⟩)) (y := ((i : Int) + 1, g + 1, some ⟨q, 0, none⟩)) (u := .int .i64 (g + 1)) (i := i) (by simp [hlt]) (j := 1) (by decide) rfl
  rw [List.set_set] at s2
  have s3 := (s2.setOther (b := w.heap.size + 1) (o := 0) (x := .int .i64 ((i : Int) + 1)) (fun k hk => by obtain rfl := Option.some.inj hk; exact n1)).setOther (b := w.heap.size + 1) (o := 1) (x := .int .i64 (g + 1)) (fun k hk => by obtain rfl := Option.some.inj hk; exact n1)
  have t1 := blk_set (blk_set (blk_off (blk_off K2.out n2 (i * 3 + 2) (.pointer (some ⟨q, 0, none⟩))) n2 (i * 3 + 1) (.int .i64 (g + 1))) 0 (.int .i64 ((i : Int) + 1))) 1 (.int .i64 (g + 1))
  have rq := RecAt.other RQ.out k0 (fun k hk => by have := Z.out; have := SL.out; omega) (by have := Z.out; have := QQ.out; omega)
  refine bodyPost_ret (v := .agg #[.int .i64 ((i : Int) + 1), .int .i64 (g + 1)]) (results_cell1 rfl _ _ (w.heap.size + 1) [.int .i64 ((i : Int) + 1), .int .i64 (g + 1)] _ rfl (fun j u hj => ?_) Try.underlying37 rfl (by kernel_rfl)) rfl ⟨q, rfl, by have := QQ.out; omega, rq.mono (by have := Z.out; omega), s3, kk⟩
  rw [Nat.zero_add, blk_cell t1, ← hj, ← Array.getElem?_toList]
  rfl
end Go.Proofs.Ytkkmfacngmginaa
