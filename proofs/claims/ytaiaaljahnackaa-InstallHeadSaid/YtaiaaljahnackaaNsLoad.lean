/- A memory's Load, by contract. -/
import Derived.Test.YtaiaaljahnackaaNsOne
namespace Go.Proofs.Ytaiaaljahnackaa
open Go.RowKit

set_option maxRecDepth 100000 in
set_option maxHeartbeats 4000000 in
theorem mLoad_any (w : World) (m : MB) (S : Nat → Prop) (l : LimN) (k : Int) (ps : List Pt) (L : List Pg) (c : Ck) (x y : Int) (h : MemAt w m S l k ps L c) :
    Calls Try.prog 15 #[.pointer (some ⟨m.mb, 0, none⟩), refV x y] w fun ev w' => ∃ rv en v, ev = .returned (.tuple #[recVal (loadM l.s ps x y).sc rv en, v]) ∧ ErrF w' v (codeM l.s ps x y) ∧ OwnS lRow w.heap.size w' rv (loadM l.s ps x y).rows ∧ OwnS lEnt w.heap.size w' en (loadM l.s ps x y).ents ∧ MemAt w' m S l (inc k) ps L c ∧ Kept (MS m S) w w' := by
  obtain ⟨W0, hW0⟩ : ∃ W, W = (w.alloc (.cells #[.int .i64 x, .int .i64 y] 34)).alloc (.cells #[.int .i64 0, .string ⟨#[]⟩, .string ⟨#[]⟩, .bool false, .int .i64 0, .slice none 0 0, .slice none 0 0, .string ⟨#[]⟩, .string ⟨#[]⟩, .int .i64 0, .int .i64 0, .int .i64 0, .string ⟨#[]⟩, .int .i64 0, .int .i64 0] 44) := ⟨_, rfl⟩
  have b0 : Below w.heap.size w W0 := by rw [hW0]; exact (alloc_below0 _ _).trans ((alloc_below0 _ _).mono (alloc_below0 w _).size)
  have M0 := Lib.hid (h.low b0)
  have R0 := Lib.hid (RfB.mk (show W0.heap[w.heap.size]? = some (.cells #[.int .i64 x, .int .i64 y] 34 (0, 0)) by rw [hW0]; exact blk_step (blk_new w _) (alloc_below0 _ _)))
  have Z0 := Lib.hid (show W0.heap[w.heap.size + 1]? = some (.cells #[.int .i64 0, .string ⟨#[]⟩, .string ⟨#[]⟩, .bool false, .int .i64 0, .slice none 0 0, .slice none 0 0, .string ⟨#[]⟩, .string ⟨#[]⟩, .int .i64 0, .int .i64 0, .int .i64 0, .string ⟨#[]⟩, .int .i64 0, .int .i64 0] 44 (0, 0)) by rw [hW0, show w.heap.size + 1 = (w.alloc (.cells #[.int .i64 x, .int .i64 y] 34)).heap.size by simp]; exact blk_new _ _)
  have N0 := Lib.hid (show W0.heap.size = w.heap.size + 2 by rw [hW0]; simp)
  have B0 := Lib.hid b0
  have LTW := Lib.hid (show ∀ j, MS m S j → j < w.heap.size from h.lt)
  clear h b0
  unfold refV
  go_enter Try.func15, Try.ntmps15
  go_wp2_with fail
  rw [← hW0]
  clear hW0
  refine (access_inc _ m S l k ps L c M0.out).mono ?_
  rintro ev w1 ⟨rfl, hM, hk⟩
  have M1 := Lib.hid hM
  have K1 := Lib.hid ((Kept.of_below B0.out).trans (hk.wide fun _ _ h => CM.ms (S := S) _ h))
  have S1 := Lib.hid (show w.heap.size + 2 ≤ w1.heap.size by have h1 := hk.size; have h2 := N0.out; omega)
  have R1 := Lib.hid (R0.out.keep hk (M0.out.offC R0.out.blk (by decide) (by decide)))
  have Z1 := Lib.hid ((hk.block _ (Array.getElem?_eq_some_iff.1 Z0.out).1 (M0.out.offC Z0.out (by decide) (by decide))).trans Z0.out)
  clear hM hk
  go_upto_region 4 with (fail)
  go_cut [6, 7] from 17 to 25 (fun s6 s7 wc => ∃ (b : Nat) (ra : Option Addr) (rc : Nat) (ea : Option Addr) (ec : Nat), s6 = .pointer (some ⟨b, 0, none⟩) ∧ s7 = errV (codeM l.s ps x y) ∧ wc.heap[b]? = some (.cells (recCells (loadM l.s ps x y).sc (.slice ra (loadM l.s ps x y).rows.length rc) (.slice ea (loadM l.s ps x y).ents.length ec)).toArray 44 (0, 0)) ∧ w1.heap.size ≤ b ∧ OwnS lRow w1.heap.size wc (.slice ra (loadM l.s ps x y).rows.length rc) (loadM l.s ps x y).rows ∧ OwnS lEnt w1.heap.size wc (.slice ea (loadM l.s ps x y).ents.length ec) (loadM l.s ps x y).ents ∧ Below w1.heap.size w1 wc)
  case first =>
    go_wp2_with fail
    have BD := Lib.hid (Below.refl w1.heap.size w1).drew
    have HS := Lib.hid (show ∀ w', Below w1.heap.size w1 w' → w'.cell? ⟨m.mb, 7, none⟩ = some (.pointer (some m.aa)) ∧ RfB w' w.heap.size x y from fun w' hs => ⟨(M1.out.low hs).cA, R1.out.step hs⟩)
    have MD := Lib.hid (M1.out.low BD.out)
    have SD := Lib.hid (show w1.drew.heap.size = w1.heap.size from rfl)
    refine anyH_region (fun w' => w'.cell? ⟨m.mb, 7, none⟩ = some (.pointer (some m.aa)) ∧ RfB w' w.heap.size x y) (by kernel_rfl) ?_
    generalize w1.drew = wd at *
    refine wpAnyH_take (i := 0) (oi := ⟨some 17, _, _, _, _, _⟩) (v := ?va0) rfl (by kernel_rfl) (by kernel_rfl) (by kernel_rfl) (fun _ _ _ h => h) (Or.inl ⟨by rfl, ?hya0⟩) (HS.out _ BD.out) ?resta0
    case hya0 => (intro w hSw; have q0 := hSw.1; have q1 := hSw.2.c0; have q2 := hSw.2.c1; go_simp; try (with_reducible rfl))
    simp only [Act.put, List.setIfInBounds_toArray, List.set_cons_zero, List.set_cons_succ]
    refine wpAnyH_take (i := 1) (oi := ⟨some 18, _, _, _, _, _⟩) (v := ?va1) rfl (by kernel_rfl) (by kernel_rfl) (by kernel_rfl) (fun _ _ _ h => h) (Or.inl ⟨by rfl, ?hya1⟩) (HS.out _ BD.out) ?resta1
    case hya1 => (intro w hSw; have q0 := hSw.1; have q1 := hSw.2.c0; have q2 := hSw.2.c1; go_simp; try (with_reducible rfl))
    simp only [Act.put, List.setIfInBounds_toArray, List.set_cons_zero, List.set_cons_succ]
    refine wpAnyH_take (i := 2) (oi := ⟨some 19, _, _, _, _, _⟩) (v := ?va2) rfl (by kernel_rfl) (by kernel_rfl) (by kernel_rfl) (fun _ _ _ h => h) (Or.inl ⟨by rfl, ?hya2⟩) (HS.out _ BD.out) ?resta2
    case hya2 => (intro w hSw; have q0 := hSw.1; have q1 := hSw.2.c0; have q2 := hSw.2.c1; go_simp; try (with_reducible rfl))
    simp only [Act.put, List.setIfInBounds_toArray, List.set_cons_zero, List.set_cons_succ]
    refine wpAnyH_take (i := 3) (oi := ⟨some 20, _, _, _, _, _⟩) (v := ?va3) rfl (by kernel_rfl) (by kernel_rfl) (by kernel_rfl) (fun _ _ _ h => h) (Or.inl ⟨by rfl, ?hya3⟩) (HS.out _ BD.out) ?resta3
    case hya3 => (intro w hSw; have q0 := hSw.1; have q1 := hSw.2.c0; have q2 := hSw.2.c1; go_simp; try (with_reducible rfl))
    simp only [Act.put, List.setIfInBounds_toArray, List.set_cons_zero, List.set_cons_succ]
    refine wpAnyH_take (i := 4) (oi := ⟨some 21, _, _, _, _, _⟩) (v := ?va4) rfl (by kernel_rfl) (by kernel_rfl) (by kernel_rfl) (fun _ _ _ h => h) (Or.inl ⟨by rfl, ?hya4⟩) (HS.out _ BD.out) ?resta4
    case hya4 => (intro w hSw; have q0 := hSw.1; have q1 := hSw.2.c0; have q2 := hSw.2.c1; go_simp; try (with_reducible rfl))
    simp only [Act.put, List.setIfInBounds_toArray, List.set_cons_zero, List.set_cons_succ]
    refine anyH_two (i := 5) (j := 9) (o := ⟨some 22, _, _, _, _, _⟩) (u := ⟨some 6, _, _, _, _, _⟩) (by kernel_rfl) rfl rfl (fun K hK => ?_) (fun K hK => ?_)
    · rw [if_pos (by rfl)]
      go_simp
      refine (load_any m.aa _ l.s l.c ps x y _ MD.out.ar).mono ?_
      rintro e2 w2 ⟨rv, en, rfl, ho1, ho2, hs⟩
      obtain ⟨ra, rc, rfl, -, -⟩ := ho1.sv.lenform
      obtain ⟨ea, ec, rfl, -, -⟩ := ho2.sv.lenform
      have B2 := Lib.hid (BD.out.trans (hs.mono BD.out.size))
      have O2 := Lib.hid (ho1.mono (b' := w1.heap.size) BD.out.size)
      have E2 := Lib.hid (ho2.mono (b' := w1.heap.size) BD.out.size)
      have K2 := Lib.hid hs
      clear ho1 ho2 hs
      refine hK.out _ _ (HS.out _ B2.out) ?_
      clear hK K
      try simp only [Act.put, List.setIfInBounds_toArray, List.set_cons_zero, List.set_cons_succ]
      refine wpAnyH_take (i := 6) (oi := ⟨some 16, _, _, _, _, _⟩) (v := ?vb6) rfl (by kernel_rfl) (by kernel_rfl) (by kernel_rfl) (fun _ _ _ h => h) (Or.inl ⟨by rfl, ?hyb6⟩) (HS.out _ B2.out) ?restb6
      case hyb6 => (intro w hSw; go_simp; try (with_reducible rfl))
      simp only [Act.put, List.setIfInBounds_toArray, List.set_cons_zero, List.set_cons_succ]
      refine wpAnyH_take (i := 7) (oi := ⟨some 23, _, _, _, _, _⟩) (v := ?vb7) rfl (by kernel_rfl) (by kernel_rfl) (by kernel_rfl) (fun _ _ _ h => h) (Or.inl ⟨by rfl, ?hyb7⟩) (HS.out _ B2.out) ?restb7
      case hyb7 => (intro w hSw; go_simp; try (with_reducible rfl))
      simp only [Act.put, List.setIfInBounds_toArray, List.set_cons_zero, List.set_cons_succ]
      refine wpAnyH_take (i := 8) (oi := ⟨some 24, _, _, _, _, _⟩) (v := ?vb8) rfl (by kernel_rfl) (by kernel_rfl) (by kernel_rfl) (fun _ _ _ h => h) (Or.inl ⟨by rfl, ?hyb8⟩) (HS.out _ B2.out) ?restb8
      case hyb8 => (intro w hSw; go_simp; try (with_reducible rfl))
      simp only [Act.put, List.setIfInBounds_toArray, List.set_cons_zero, List.set_cons_succ]
      have b3 := Lib.hid (alloc_below0 w2 (.cells #[.int .i64 0, .string ⟨#[]⟩, .string ⟨#[]⟩, .bool false, .int .i64 0, .slice none 0 0, .slice none 0 0, .string ⟨#[]⟩, .string ⟨#[]⟩, .int .i64 0, .int .i64 0, .int .i64 0, .string ⟨#[]⟩, .int .i64 0, .int .i64 0] 44))
      have B3 := Lib.hid (B2.out.trans (b3.out.mono B2.out.size))
      have z3 := Lib.hid (blk_new w2 (.cells #[.int .i64 0, .string ⟨#[]⟩, .string ⟨#[]⟩, .bool false, .int .i64 0, .slice none 0 0, .slice none 0 0, .string ⟨#[]⟩, .string ⟨#[]⟩, .int .i64 0, .int .i64 0, .int .i64 0, .string ⟨#[]⟩, .int .i64 0, .int .i64 0] 44))
      have O3 := Lib.hid (O2.out.below b3.out)
      have E3 := Lib.hid (E2.out.below b3.out)
      refine anyH_one (i := 9) (o := ⟨some 6, _, _, _, _, _⟩) (by kernel_rfl) rfl (fun K hK => ?_)
      rw [if_pos (by rfl)]
      go_simp
      refine hK.out _ _ (HS.out _ B3.out) ?_
      clear hK K
      try simp only [Act.put, List.setIfInBounds_toArray, List.set_cons_zero, List.set_cons_succ]
      refine anyH_one (i := 10) (o := ⟨none, _, _, _, _, _⟩) (by kernel_rfl) rfl (fun K hK => ?_)
      rw [if_pos (by rfl)]
      refine wp_store_to 44 (.tmp 6) (.tmp 23) rfl w2.heap.size 0 (recCells (loadM l.s ps x y).sc (.slice ra (loadM l.s ps x y).rows.length rc) (.slice ea (loadM l.s ps x y).ents.length ec)) rfl rfl ?_ recInfoS (rec_one ..) ?_
      · exact blk_there z3.out 15 (Nat.le_refl _)
      intro W5 hW5
      have L5 := Lib.hid (show W5.heap[w2.heap.size]? = some (.cells (recCells (loadM l.s ps x y).sc (.slice ra (loadM l.s ps x y).rows.length rc) (.slice ea (loadM l.s ps x y).ents.length ec)).toArray 44 (0, 0)) by rw [hW5]; exact list_laid (recCells (loadM l.s ps x y).sc (.slice ra (loadM l.s ps x y).rows.length rc) (.slice ea (loadM l.s ps x y).ents.length ec)) z3.out rfl)
      have nb := Lib.hid (show w1.heap.size ≤ w2.heap.size by first | exact B2.out.size | exact Nat.le_of_eq SD.out.symm)
      have B5 := Lib.hid (show Below w1.heap.size w1 W5 by rw [hW5]; exact below_setCells nb.out _ 0 _ B3.out)
      have KB := Lib.hid (show Kept (fun j => j = w2.heap.size) (w2.alloc (.cells #[.int .i64 0, .string ⟨#[]⟩, .string ⟨#[]⟩, .bool false, .int .i64 0, .slice none 0 0, .slice none 0 0, .string ⟨#[]⟩, .string ⟨#[]⟩, .int .i64 0, .int .i64 0, .int .i64 0, .string ⟨#[]⟩, .int .i64 0, .int .i64 0] 44)) W5 by rw [hW5]; exact Kept.setCells _ _ _ (Kept.refl _ _))
      have O5 := Lib.hid (O3.out.kept KB.out (fun a n2 c2 e q => by exact absurd (O2.out.bounds a.block (by rw [e]; rfl)).2 (by have q2 : a.block = w2.heap.size := q; omega)))
      have E5 := Lib.hid (E3.out.kept KB.out (fun a n2 c2 e q => by exact absurd (E2.out.bounds a.block (by rw [e]; rfl)).2 (by have q2 : a.block = w2.heap.size := q; omega)))
      clear hW5
      refine hK.out _ _ (HS.out _ B5.out) ?_
      clear hK K
      try simp only [Act.put]
      refine anyH_one (i := 11) (o := ⟨some 7, _, _, _, _, _⟩) (by kernel_rfl) rfl (fun K hK => ?_)
      rw [if_pos (by rfl)]
      go_simp
      refine hK.out _ _ (HS.out _ B5.out) ?_
      clear hK K
      try simp only [Act.put, List.setIfInBounds_toArray, List.set_cons_zero, List.set_cons_succ]
      refine wpAnyH_done (by kernel_rfl) ?_ _
      go_wp2
      go_meet
      case rel => exact ⟨_, ra, rc, ea, ec, rfl, rfl, L5.out, nb.out, O5.out, E5.out, B5.out⟩
    · rw [if_pos (by rfl)]
      go_simp
      have b3 := Lib.hid (alloc_below0 wd (.cells #[.int .i64 0, .string ⟨#[]⟩, .string ⟨#[]⟩, .bool false, .int .i64 0, .slice none 0 0, .slice none 0 0, .string ⟨#[]⟩, .string ⟨#[]⟩, .int .i64 0, .int .i64 0, .int .i64 0, .string ⟨#[]⟩, .int .i64 0, .int .i64 0] 44))
      have z3 := Lib.hid (blk_new wd (.cells #[.int .i64 0, .string ⟨#[]⟩, .string ⟨#[]⟩, .bool false, .int .i64 0, .slice none 0 0, .slice none 0 0, .string ⟨#[]⟩, .string ⟨#[]⟩, .int .i64 0, .int .i64 0, .int .i64 0, .string ⟨#[]⟩, .int .i64 0, .int .i64 0] 44))
      have B3 := Lib.hid (BD.out.trans (b3.out.mono BD.out.size))
      have M3 := Lib.hid (MD.out.low b3.out)
      have s3 := Lib.hid (show (wd.alloc (.cells #[.int .i64 0, .string ⟨#[]⟩, .string ⟨#[]⟩, .bool false, .int .i64 0, .slice none 0 0, .slice none 0 0, .string ⟨#[]⟩, .string ⟨#[]⟩, .int .i64 0, .int .i64 0, .int .i64 0, .string ⟨#[]⟩, .int .i64 0, .int .i64 0] 44)).heap.size = wd.heap.size + 1 by simp)
      refine hK.out _ _ (HS.out _ B3.out) ?_
      clear hK K
      try simp only [Act.put, List.setIfInBounds_toArray, List.set_cons_zero, List.set_cons_succ]
      refine anyH_one (i := 5) (o := ⟨some 22, _, _, _, _, _⟩) (by kernel_rfl) rfl (fun K hK => ?_)
      rw [if_pos (by rfl)]
      go_simp
      refine (load_any m.aa _ l.s l.c ps x y _ M3.out.ar).mono ?_
      rintro e2 w2 ⟨rv, en, rfl, ho1, ho2, hs⟩
      obtain ⟨ra, rc, rfl, -, -⟩ := ho1.sv.lenform
      obtain ⟨ea, ec, rfl, -, -⟩ := ho2.sv.lenform
      have B2 := Lib.hid (B3.out.trans (hs.mono B3.out.size))
      have O2 := Lib.hid ho1
      have E2 := Lib.hid ho2
      have K2 := Lib.hid hs
      clear ho1 ho2 hs
      refine hK.out _ _ (HS.out _ B2.out) ?_
      clear hK K
      try simp only [Act.put, List.setIfInBounds_toArray, List.set_cons_zero, List.set_cons_succ]
      refine wpAnyH_take (i := 6) (oi := ⟨some 16, _, _, _, _, _⟩) (v := ?vc6) rfl (by kernel_rfl) (by kernel_rfl) (by kernel_rfl) (fun _ _ _ h => h) (Or.inl ⟨by rfl, ?hyc6⟩) (HS.out _ B2.out) ?restc6
      case hyc6 => (intro w hSw; go_simp; try (with_reducible rfl))
      simp only [Act.put, List.setIfInBounds_toArray, List.set_cons_zero, List.set_cons_succ]
      refine wpAnyH_take (i := 7) (oi := ⟨some 23, _, _, _, _, _⟩) (v := ?vc7) rfl (by kernel_rfl) (by kernel_rfl) (by kernel_rfl) (fun _ _ _ h => h) (Or.inl ⟨by rfl, ?hyc7⟩) (HS.out _ B2.out) ?restc7
      case hyc7 => (intro w hSw; go_simp; try (with_reducible rfl))
      simp only [Act.put, List.setIfInBounds_toArray, List.set_cons_zero, List.set_cons_succ]
      refine wpAnyH_take (i := 8) (oi := ⟨some 24, _, _, _, _, _⟩) (v := ?vc8) rfl (by kernel_rfl) (by kernel_rfl) (by kernel_rfl) (fun _ _ _ h => h) (Or.inl ⟨by rfl, ?hyc8⟩) (HS.out _ B2.out) ?restc8
      case hyc8 => (intro w hSw; go_simp; try (with_reducible rfl))
      simp only [Act.put, List.setIfInBounds_toArray, List.set_cons_zero, List.set_cons_succ]
      have z4 := Lib.hid (blk_step z3.out K2.out)
      have O4 := Lib.hid (O2.out.mono (b' := w1.heap.size) B3.out.size)
      have E4 := Lib.hid (E2.out.mono (b' := w1.heap.size) B3.out.size)
      refine anyH_one (i := 10) (o := ⟨none, _, _, _, _, _⟩) (by kernel_rfl) rfl (fun K hK => ?_)
      rw [if_pos (by rfl)]
      refine wp_store_to 44 (.tmp 6) (.tmp 23) rfl wd.heap.size 0 (recCells (loadM l.s ps x y).sc (.slice ra (loadM l.s ps x y).rows.length rc) (.slice ea (loadM l.s ps x y).ents.length ec)) rfl rfl ?_ recInfoS (rec_one ..) ?_
      · exact blk_there z4.out 15 (Nat.le_refl _)
      intro W5 hW5
      have L5 := Lib.hid (show W5.heap[wd.heap.size]? = some (.cells (recCells (loadM l.s ps x y).sc (.slice ra (loadM l.s ps x y).rows.length rc) (.slice ea (loadM l.s ps x y).ents.length ec)).toArray 44 (0, 0)) by rw [hW5]; exact list_laid (recCells (loadM l.s ps x y).sc (.slice ra (loadM l.s ps x y).rows.length rc) (.slice ea (loadM l.s ps x y).ents.length ec)) z4.out rfl)
      have nb := Lib.hid (show w1.heap.size ≤ wd.heap.size by first | exact B2.out.size | exact Nat.le_of_eq SD.out.symm)
      have B5 := Lib.hid (show Below w1.heap.size w1 W5 by rw [hW5]; exact below_setCells nb.out _ 0 _ B2.out)
      have KB := Lib.hid (show Kept (fun j => j = wd.heap.size) w2 W5 by rw [hW5]; exact Kept.setCells _ _ _ (Kept.refl _ _))
      have O5 := Lib.hid (O4.out.kept KB.out (fun a n2 c2 e q => by exact absurd (O2.out.bounds a.block (by rw [e]; rfl)).1 (by have q2 : a.block = wd.heap.size := q; have h1 := s3.out; omega)))
      have E5 := Lib.hid (E4.out.kept KB.out (fun a n2 c2 e q => by exact absurd (E2.out.bounds a.block (by rw [e]; rfl)).1 (by have q2 : a.block = wd.heap.size := q; have h1 := s3.out; omega)))
      clear hW5
      refine hK.out _ _ (HS.out _ B5.out) ?_
      clear hK K
      try simp only [Act.put]
      refine anyH_one (i := 11) (o := ⟨some 7, _, _, _, _, _⟩) (by kernel_rfl) rfl (fun K hK => ?_)
      rw [if_pos (by rfl)]
      go_simp
      refine hK.out _ _ (HS.out _ B5.out) ?_
      clear hK K
      try simp only [Act.put, List.setIfInBounds_toArray, List.set_cons_zero, List.set_cons_succ]
      refine wpAnyH_done (by kernel_rfl) ?_ _
      go_wp2
      go_meet
      case rel => exact ⟨_, ra, rc, ea, ec, rfl, rfl, L5.out, nb.out, O5.out, E5.out, B5.out⟩
  case rest =>
    obtain ⟨b, ra, rc, ea, ec, rfl, rfl, hL, hb, ho, he, hs⟩ := hcut
    obtain ⟨wL, hwq⟩ : ∃ x, x = wc := ⟨_, rfl⟩
    subst hwq
    have L2 := Lib.hid hL
    have O2 := Lib.hid ho
    have E2 := Lib.hid he
    have M2 := Lib.hid (M1.out.low hs)
    have K2 := Lib.hid (K1.out.trans (Kept.of_below hs))
    have R2 := Lib.hid (R1.out.step hs)
    have Z2 := Lib.hid (blk_step Z1.out hs)
    have NB := Lib.hid (show w.heap.size + 2 ≤ b by have := S1.out; omega)
    clear hL hb ho he hs
    go_upto_region 5 with (fail)
    have BD := Lib.hid (Below.refl wL.heap.size wL).drew
    have LD := Lib.hid (blk_step L2.out BD.out)
    have RD := Lib.hid (R2.out.step BD.out)
    have ZD := Lib.hid (blk_step Z2.out BD.out)
    have OD := Lib.hid (O2.out.below BD.out)
    have ED := Lib.hid (E2.out.below BD.out)
    have MD := Lib.hid (M2.out.low BD.out)
    have KD := Lib.hid (K2.out.trans (Kept.of_below BD.out))
    refine anyH_region (fun w' => w'.heap[b]? = some (.cells (recCells (loadM l.s ps x y).sc (.slice ra (loadM l.s ps x y).rows.length rc) (.slice ea (loadM l.s ps x y).ents.length ec)).toArray 44 (0, 0)) ∧ RfB w' w.heap.size x y) (by kernel_rfl) ?_
    generalize wL.drew = wd at *
    refine wpAnyH_take (i := 0) (oi := ⟨some 25, _, _, _, _, _⟩) (v := .agg (recCells (loadM l.s ps x y).sc (.slice ra (loadM l.s ps x y).rows.length rc) (.slice ea (loadM l.s ps x y).ents.length ec)).toArray) rfl (by kernel_rfl) (by kernel_rfl) (by kernel_rfl) (fun _ _ _ h => h) (yieldsIf_load_mid (by rfl) 44 (.tmp 6) rfl b 0 rfl (recCells (loadM l.s ps x y).sc (.slice ra (loadM l.s ps x y).rows.length rc) (.slice ea (loadM l.s ps x y).ents.length ec)) _ (fun w h => blk_rng h.1) Try.underlying44 rfl recInfoS) ⟨LD.out, RD.out⟩ ?reste0
    simp only [Act.put, List.setIfInBounds_toArray, List.set_cons_zero, List.set_cons_succ]
    refine wpAnyH_take (i := 1) (oi := ⟨some 26, _, _, _, _, _⟩) (v := ?ve1) rfl (by kernel_rfl) (by kernel_rfl) (by kernel_rfl) (fun _ _ _ h => h) (Or.inl ⟨by rfl, ?hye1⟩) ⟨LD.out, RD.out⟩ ?reste1
    case hye1 => (intro w hSw; have q0 := hSw.2.c0; have q1 := hSw.2.c1; go_simp; try (with_reducible rfl))
    simp only [Act.put, List.setIfInBounds_toArray, List.set_cons_zero, List.set_cons_succ]
    refine wpAnyH_take (i := 2) (oi := ⟨some 27, _, _, _, _, _⟩) (v := ?ve2) rfl (by kernel_rfl) (by kernel_rfl) (by kernel_rfl) (fun _ _ _ h => h) (Or.inl ⟨by rfl, ?hye2⟩) ⟨LD.out, RD.out⟩ ?reste2
    case hye2 => (intro w hSw; have q0 := hSw.2.c0; have q1 := hSw.2.c1; go_simp; try (with_reducible rfl))
    simp only [Act.put, List.setIfInBounds_toArray, List.set_cons_zero, List.set_cons_succ]
    refine wpAnyH_take (i := 3) (oi := ⟨some 28, _, _, _, _, _⟩) (v := ?ve3) rfl (by kernel_rfl) (by kernel_rfl) (by kernel_rfl) (fun _ _ _ h => h) (Or.inl ⟨by rfl, ?hye3⟩) ⟨LD.out, RD.out⟩ ?reste3
    case hye3 => (intro w hSw; have q0 := hSw.2.c0; have q1 := hSw.2.c1; go_simp; try (with_reducible rfl))
    simp only [Act.put, List.setIfInBounds_toArray, List.set_cons_zero, List.set_cons_succ]
    refine anyH_one (i := 4) (o := ⟨some 29, _, _, _, _, _⟩) (by kernel_rfl) rfl (fun K hK => ?_)
    rw [if_pos (by rfl)]
    go_simp
    refine (fAt_any ⟨#[97, 114, 101, 110, 97]⟩ x (codeM l.s ps x y) _).mono ?_
    rintro e3 w3 ⟨v, rfl, he, hs⟩
    have F3 := Lib.hid he
    have M3 := Lib.hid (MD.out.low hs)
    have K3 := Lib.hid (KD.out.trans (Kept.of_below hs))
    have Z3 := Lib.hid (blk_step ZD.out hs)
    have R3 := Lib.hid (RD.out.step hs)
    have L3 := Lib.hid (blk_step LD.out hs)
    have O3 := Lib.hid (OD.out.below hs)
    have E3 := Lib.hid (ED.out.below hs)
    clear hs he
    refine hK.out _ _ ⟨L3.out, R3.out⟩ ?_
    clear hK K
    try simp only [Act.put, List.setIfInBounds_toArray, List.set_cons_zero, List.set_cons_succ]
    refine anyH_one (i := 5) (o := ⟨none, _, _, _, _, _⟩) (by kernel_rfl) rfl (fun K hK => ?_)
    rw [if_pos (by rfl)]
    refine wp_store_to 44 (.tmp 4) (.tmp 25) rfl (w.heap.size + 1) 0 (recCells (loadM l.s ps x y).sc (.slice ra (loadM l.s ps x y).rows.length rc) (.slice ea (loadM l.s ps x y).ents.length ec)) rfl rfl ?_ recInfoS (rec_one ..) ?_
    · exact blk_there Z3.out 15 (Nat.le_refl _)
    intro W5 hW5
    have L5 := Lib.hid (show W5.heap[w.heap.size + 1]? = some (.cells (recCells (loadM l.s ps x y).sc (.slice ra (loadM l.s ps x y).rows.length rc) (.slice ea (loadM l.s ps x y).ents.length ec)).toArray 44 (0, 0)) by rw [hW5]; exact list_laid (recCells (loadM l.s ps x y).sc (.slice ra (loadM l.s ps x y).rows.length rc) (.slice ea (loadM l.s ps x y).ents.length ec)) Z3.out rfl)
    have KB := Lib.hid (show Kept (fun j => j = w.heap.size + 1) w3 W5 by rw [hW5]; exact Kept.setCells _ _ _ (Kept.refl _ _))
    have M5 := Lib.hid (M3.out.keep KB.out (fun j hj e => by have := LTW.out j hj; omega))
    have F5 := Lib.hid (F3.out.keepF KB.out Z3.out (by decide))
    have R5 := Lib.hid (R3.out.keep KB.out (show ¬ w.heap.size = w.heap.size + 1 by omega))
    have L6 := Lib.hid ((KB.out.block b (Array.getElem?_eq_some_iff.1 L3.out).1 (show ¬ b = w.heap.size + 1 by have := NB.out; omega)).trans L3.out)
    have O5 := Lib.hid (O3.out.keptF KB.out (fun k (e : k = w.heap.size + 1) => .inl (by have := S1.out; omega)))
    have E5 := Lib.hid (E3.out.keptF KB.out (fun k (e : k = w.heap.size + 1) => .inl (by have := S1.out; omega)))
    have K5 := Lib.hid (K3.out.after KB.out (fun j (e : j = w.heap.size + 1) => .inr (by omega)))
    clear hW5
    refine hK.out _ _ ⟨L6.out, R5.out⟩ ?_
    clear hK K
    try simp only [Act.put]
    refine anyH_one (i := 6) (o := ⟨some 5, _, _, _, _, _⟩) (by kernel_rfl) rfl (fun K hK => ?_)
    rw [if_pos (by rfl)]
    go_simp
    refine hK.out _ _ ⟨L6.out, R5.out⟩ ?_
    clear hK K
    try simp only [Act.put, List.setIfInBounds_toArray, List.set_cons_zero, List.set_cons_succ]
    refine wpAnyH_done (by kernel_rfl) ?_ _
    go_wp2
    refine bodyPost_ret (v := .tuple #[.agg (recCells (loadM l.s ps x y).sc (.slice ra (loadM l.s ps x y).rows.length rc) (.slice ea (loadM l.s ps x y).ents.length ec)).toArray, v]) (results_cellT rfl _ _ (w.heap.size + 1) _ _ _ rfl rfl (blk_rng L5.out) Try.underlying44 rfl recInfoS) rfl ?_
    exact ⟨_, _, v, rfl, F5.out, O5.out.mono (by have := S1.out; omega), E5.out.mono (by have := S1.out; omega), M5.out, K5.out⟩
end Go.Proofs.Ytaiaaljahnackaa
