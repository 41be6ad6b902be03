/- The document's own Right over writes (layer 16), by contract. -/
import Derived.Test.YtkbfhpgcjljbbaaDoorCmFew
import Derived.Test.YtkbfhpgcjljbbaaDoorRwRef2
import Derived.Test.YtkbfhpgcjljbbaaDoorCmAny
namespace Go.Proofs.YtkbfhpgcjljbbaaDoor
set_option linter.unusedVariables false
set_option linter.unusedSimpArgs false
open Go.RowKit

def prevW (xs : List Wr) : Nat → Option ByteArray
  | 0 => none
  | j + 1 => some (xs.getD j w00).1
theorem wdrop_at {xs : List Wr} {k : Nat} {x : Wr} (h : xs[k]? = some x) : xs.drop k = x :: xs.drop (k + 1) := by
  obtain ⟨hk, e⟩ := List.getElem?_eq_some_iff.1 h
  rw [List.drop_eq_getElem_cons hk, e]
theorem wprev_at {xs : List Wr} {k : Nat} {x : Wr} (h : xs[k]? = some x) : prevW xs (k + 1) = some x.1 := by
  show some (xs.getD k w00).1 = _
  rw [List.getD, h]; rfl
theorem wRight_step {xs : List Wr} {k : Nat} {x : Wr} (h : xs[k]? = some x) : wFrom (prevW xs k) (xs.drop k) = (wFit x && (match prevW xs k with | none => true | some q => bef q.data.toList x.1.data.toList) && wFrom (prevW xs (k + 1)) (xs.drop (k + 1))) := by
  rw [wdrop_at h, wprev_at h]; rfl
theorem wFit_no {x y : ByteArray} {g : Bool} (h : fitB (x, y) = false) : wFit (x, y, g) = false := by unfold wFit; simp only [h, Bool.false_and]
theorem wFit_live {x y : ByteArray} (h : fitB (x, y) = true) : wFit (x, y, false) = true := by unfold wFit; simp only [h]; rfl
theorem wFit_gone {x y : ByteArray} (h : fitB (x, y) = true) : wFit (x, y, true) = (y.toList == (⟨#[]⟩ : ByteArray).toList) := by unfold wFit; simp only [h]; rfl
set_option maxRecDepth 100000 in
set_option maxHeartbeats 4000000 in
theorem refRight16_any (v : Value) (xs : List Wr) (w : World) (hv : WrV lDw w v xs) :
    Calls Tryd.prog 41 #[v] w fun ev w' => ev = .returned (.bool (wRight xs)) ∧ Below w.heap.size w w' := by
  obtain ⟨a, cap, rfl, hlc, hcm⟩ := hv.1.lenform
  obtain ⟨n, hn⟩ : ∃ n, xs.length = n := ⟨_, rfl⟩
  rw [hn] at hv hlc ⊢
  have V := Lib.hid hv
  have LN := Lib.hid hn
  unfold maxLen at hcm
  clear hv hn
  go_enter Tryd.func41, Tryd.ntmps41
  go_wp2
  go_loopg [3] n (fun c i wr => ∃ k : Nat, k + c = n ∧ i = .int .i64 k ∧ wRight xs = wFrom (prevW xs k) (xs.drop k) ∧ Below w.heap.size w wr)
  case atStart => exact ⟨0, by omega, rfl, by simp [wRight, prevW], Below.refl _ _⟩
  case round =>
    obtain ⟨k, hk, rfl, hf, hB⟩ := hrel
    have A := Lib.hid (show wRight xs = wFrom (prevW xs k) (xs.drop k) ∧ Below w.heap.size w wr ∧ k + gk = n from ⟨hf, hB, hk⟩)
    clear hf hB
    by_cases hlt : k < n
    · obtain ⟨⟨x, y, g⟩, hx⟩ : ∃ x, xs[k]? = some x := ⟨_, List.getElem?_eq_getElem (by rw [LN.out]; exact hlt)⟩
      obtain ⟨b, off, ha⟩ := V.out.1.addr (by rw [LN.out]; omega)
      subst ha
      obtain ⟨x0, x1, x2⟩ := (V.out.below A.out.2.1).cells hx
      have M := Lib.hid (V.out.2.at hx)
      have T := Lib.hid (wRight_step hx)
      have HX := Lib.hid hx
      simp only at x0 x1 x2
      have j3 : (0 : Int) ≤ (k : Int) := by omega
      have j4 : (k : Int) < (n : Int) := by omega
      clear hx
      cases hfit : fitB (x, y) with
      | false =>
        have G := Lib.hid (show wRight xs = false by rw [A.out.1, T.out, wFit_no hfit]; rfl)
        have H := Lib.hid hfit
        clear hfit
        go_wp2_with fail
        refine anyH_region (fun w' => w'.cell? ⟨b, off + k * 3, none⟩ = some (.string x) ∧ w'.cell? ⟨b, off + k * 3 + 1, none⟩ = some (.string y) ∧ w'.cell? ⟨b, off + k * 3 + 2, none⟩ = some (.bool g)) (by kernel_rfl) ?_
        refine wpAnyH_take (i := 0) (oi := ⟨some 10, _, _, _, _, _⟩) (v := ?vr1_0) rfl (by kernel_rfl) (by kernel_rfl) (by kernel_rfl) (fun _ _ _ h => h) (Or.inl ⟨by rfl, ?hyr1_0⟩) ⟨x0, x1, x2⟩ ?restr1_0
        case hyr1_0 => (intro w hSw; go_simp; try (with_reducible rfl))
        simp only [Act.put, List.setIfInBounds_toArray, List.set_cons_zero, List.set_cons_succ]
        refine wpAnyH_take (i := 1) (oi := ⟨some 11, _, _, _, _, _⟩) (v := ?vr1_1) rfl (by kernel_rfl) (by kernel_rfl) (by kernel_rfl) (fun _ _ _ h => h) (Or.inl ⟨by rfl, ?hyr1_1⟩) ⟨x0, x1, x2⟩ ?restr1_1
        case hyr1_1 => (intro w hSw; go_simp; try (with_reducible rfl))
        simp only [Act.put, List.setIfInBounds_toArray, List.set_cons_zero, List.set_cons_succ]
        refine wpAnyH_take (i := 2) (oi := ⟨some 12, _, _, _, _, _⟩) (v := ?vr1_2) rfl (by kernel_rfl) (by kernel_rfl) (by kernel_rfl) (fun _ _ _ h => h) (Or.inl ⟨by rfl, ?hyr1_2⟩) ⟨x0, x1, x2⟩ ?restr1_2
        case hyr1_2 => (intro w hSw; have q0 := hSw.1; have q1 := hSw.2.1; have q2 := hSw.2.2; go_simp; try (with_reducible rfl))
        simp only [Act.put, List.setIfInBounds_toArray, List.set_cons_zero, List.set_cons_succ]
        refine wpAnyH_take (i := 3) (oi := ⟨some 13, _, _, _, _, _⟩) (v := ?vr1_3) rfl (by kernel_rfl) (by kernel_rfl) (by kernel_rfl) (fun _ _ _ h => h) (Or.inl ⟨by rfl, ?hyr1_3⟩) ⟨x0, x1, x2⟩ ?restr1_3
        case hyr1_3 => (intro w hSw; go_simp; try (with_reducible rfl))
        simp only [Act.put, List.setIfInBounds_toArray, List.set_cons_zero, List.set_cons_succ]
        refine wpAnyH_take (i := 4) (oi := ⟨some 14, _, _, _, _, _⟩) (v := ?vr1_4) rfl (by kernel_rfl) (by kernel_rfl) (by kernel_rfl) (fun _ _ _ h => h) (Or.inl ⟨by rfl, ?hyr1_4⟩) ⟨x0, x1, x2⟩ ?restr1_4
        case hyr1_4 => (intro w hSw; have q0 := hSw.1; have q1 := hSw.2.1; have q2 := hSw.2.2; go_simp; try (with_reducible rfl))
        simp only [Act.put, List.setIfInBounds_toArray, List.set_cons_zero, List.set_cons_succ]
        refine wpAnyH_take (i := 5) (oi := ⟨some 15, _, _, _, _, _⟩) (v := ?vr1_5) rfl (by kernel_rfl) (by kernel_rfl) (by kernel_rfl) (fun _ _ _ h => h) (Or.inl ⟨by rfl, ?hyr1_5⟩) ⟨x0, x1, x2⟩ ?restr1_5
        case hyr1_5 => (intro w hSw; go_simp; try (with_reducible rfl))
        simp only [Act.put, List.setIfInBounds_toArray, List.set_cons_zero, List.set_cons_succ]
        refine wpAnyH_take (i := 6) (oi := ⟨some 16, _, _, _, _, _⟩) (v := ?vr1_6) rfl (by kernel_rfl) (by kernel_rfl) (by kernel_rfl) (fun _ _ _ h => h) (Or.inl ⟨by rfl, ?hyr1_6⟩) ⟨x0, x1, x2⟩ ?restr1_6
        case hyr1_6 => (intro w hSw; go_simp; try (with_reducible rfl))
        simp only [Act.put, List.setIfInBounds_toArray, List.set_cons_zero, List.set_cons_succ]
        refine wpAnyH_take (i := 7) (oi := ⟨some 17, _, _, _, _, _⟩) (v := ?vr1_7) rfl (by kernel_rfl) (by kernel_rfl) (by kernel_rfl) (fun _ _ _ h => h) (Or.inl ⟨by rfl, ?hyr1_7⟩) ⟨x0, x1, x2⟩ ?restr1_7
        case hyr1_7 => (intro w hSw; have q0 := hSw.1; have q1 := hSw.2.1; have q2 := hSw.2.2; go_simp; try (with_reducible rfl))
        simp only [Act.put, List.setIfInBounds_toArray, List.set_cons_zero, List.set_cons_succ]
        refine wpAnyH_take (i := 8) (oi := ⟨some 18, _, _, _, _, _⟩) (v := ?vr1_8) rfl (by kernel_rfl) (by kernel_rfl) (by kernel_rfl) (fun _ _ _ h => h) (Or.inl ⟨by rfl, ?hyr1_8⟩) ⟨x0, x1, x2⟩ ?restr1_8
        case hyr1_8 => (intro w hSw; go_simp; try (with_reducible rfl))
        simp only [Act.put, List.setIfInBounds_toArray, List.set_cons_zero, List.set_cons_succ]
        refine wpAnyH_take (i := 9) (oi := ⟨some 19, _, _, _, _, _⟩) (v := ?vr1_9) rfl (by kernel_rfl) (by kernel_rfl) (by kernel_rfl) (fun _ _ _ h => h) (Or.inl ⟨by rfl, ?hyr1_9⟩) ⟨x0, x1, x2⟩ ?restr1_9
        case hyr1_9 => (intro w hSw; have q0 := hSw.1; have q1 := hSw.2.1; have q2 := hSw.2.2; go_simp; try (with_reducible rfl))
        simp only [Act.put, List.setIfInBounds_toArray, List.set_cons_zero, List.set_cons_succ]
        refine wpAnyH_take (i := 10) (oi := ⟨some 20, _, _, _, _, _⟩) (v := ?vr1_10) rfl (by kernel_rfl) (by kernel_rfl) (by kernel_rfl) (fun _ _ _ h => h) (Or.inl ⟨by rfl, ?hyr1_10⟩) ⟨x0, x1, x2⟩ ?restr1_10
        case hyr1_10 => (intro w hSw; go_simp; try (with_reducible rfl))
        simp only [Act.put, List.setIfInBounds_toArray, List.set_cons_zero, List.set_cons_succ]
        refine anyH_one (i := 11) (o := ⟨some 21, _, _, _, _, _⟩) (by kernel_rfl) rfl (fun K hK => ?_)
        rw [if_pos (by rfl)]
        go_simp
        refine (refFits_any (x, y) _ M.out.1 M.out.2).mono ?_
        rintro e w3 ⟨rfl, hs⟩
        rw [H.out]
        have F := Lib.hid (A.out.2.1.drew.trans (hs.mono A.out.2.1.drew.size))
        have u0 := (hs.cell (p := ⟨b, off + k * 3, none⟩) (lt_of_cell x0)).trans x0
        have u1 := (hs.cell (p := ⟨b, off + k * 3 + 1, none⟩) (lt_of_cell x1)).trans x1
        have u2 := (hs.cell (p := ⟨b, off + k * 3 + 2, none⟩) (lt_of_cell x2)).trans x2
        clear hs
        refine hK.out _ _ ⟨u0, u1, u2⟩ ?_
        clear hK K
        try simp only [Act.put, List.setIfInBounds_toArray, List.set_cons_zero, List.set_cons_succ]
        refine wpAnyH_take (i := 12) (oi := ⟨some 22, _, _, _, _, _⟩) (v := ?vr1_12) rfl (by kernel_rfl) (by kernel_rfl) (by kernel_rfl) (fun _ _ _ h => h) (Or.inl ⟨by rfl, ?hyr1_12⟩) ⟨u0, u1, u2⟩ ?restr1_12
        case hyr1_12 => (intro w hSw; have q0 := hSw.1; have q1 := hSw.2.1; have q2 := hSw.2.2; go_simp; try (with_reducible rfl))
        simp only [Act.put, List.setIfInBounds_toArray, List.set_cons_zero, List.set_cons_succ]
        refine wpAnyH_take (i := 13) (oi := ⟨some 23, _, _, _, _, _⟩) (v := ?vr1_13) rfl (by kernel_rfl) (by kernel_rfl) (by kernel_rfl) (fun _ _ _ h => h) (Or.inl ⟨by rfl, ?hyr1_13⟩) ⟨u0, u1, u2⟩ ?restr1_13
        case hyr1_13 => (intro w hSw; go_simp; try (with_reducible rfl))
        simp only [Act.put, List.setIfInBounds_toArray, List.set_cons_zero, List.set_cons_succ]
        refine wpAnyH_take (i := 14) (oi := ⟨some 24, _, _, _, _, _⟩) (v := undef) rfl (by kernel_rfl) (by kernel_rfl) (by kernel_rfl) (fun _ _ _ h => h) (Or.inr ⟨by rfl, rfl⟩) ⟨u0, u1, u2⟩ ?restr1_14
        simp only [Act.put, List.setIfInBounds_toArray, List.set_cons_zero, List.set_cons_succ]
        refine wpAnyH_take (i := 15) (oi := ⟨some 25, _, _, _, _, _⟩) (v := undef) rfl (by kernel_rfl) (by kernel_rfl) (by kernel_rfl) (fun _ _ _ h => h) (Or.inr ⟨by rfl, rfl⟩) ⟨u0, u1, u2⟩ ?restr1_15
        simp only [Act.put, List.setIfInBounds_toArray, List.set_cons_zero, List.set_cons_succ]
        refine wpAnyH_take (i := 16) (oi := ⟨some 26, _, _, _, _, _⟩) (v := undef) rfl (by kernel_rfl) (by kernel_rfl) (by kernel_rfl) (fun _ _ _ h => h) (Or.inr ⟨by rfl, rfl⟩) ⟨u0, u1, u2⟩ ?restr1_16
        simp only [Act.put, List.setIfInBounds_toArray, List.set_cons_zero, List.set_cons_succ]
        refine wpAnyH_take (i := 17) (oi := ⟨some 27, _, _, _, _, _⟩) (v := undef) rfl (by kernel_rfl) (by kernel_rfl) (by kernel_rfl) (fun _ _ _ h => h) (Or.inr ⟨by rfl, rfl⟩) ⟨u0, u1, u2⟩ ?restr1_17
        simp only [Act.put, List.setIfInBounds_toArray, List.set_cons_zero, List.set_cons_succ]
        refine wpAnyH_take (i := 18) (oi := ⟨some 28, _, _, _, _, _⟩) (v := undef) rfl (by kernel_rfl) (by kernel_rfl) (by kernel_rfl) (fun _ _ _ h => h) (Or.inr ⟨by rfl, rfl⟩) ⟨u0, u1, u2⟩ ?restr1_18
        simp only [Act.put, List.setIfInBounds_toArray, List.set_cons_zero, List.set_cons_succ]
        refine wpAnyH_take (i := 19) (oi := ⟨some 29, _, _, _, _, _⟩) (v := undef) rfl (by kernel_rfl) (by kernel_rfl) (by kernel_rfl) (fun _ _ _ h => h) (Or.inr ⟨by rfl, rfl⟩) ⟨u0, u1, u2⟩ ?restr1_19
        simp only [Act.put, List.setIfInBounds_toArray, List.set_cons_zero, List.set_cons_succ]
        refine wpAnyH_take (i := 20) (oi := ⟨some 30, _, _, _, _, _⟩) (v := undef) rfl (by kernel_rfl) (by kernel_rfl) (by kernel_rfl) (fun _ _ _ h => h) (Or.inr ⟨by rfl, rfl⟩) ⟨u0, u1, u2⟩ ?restr1_20
        simp only [Act.put, List.setIfInBounds_toArray, List.set_cons_zero, List.set_cons_succ]
        refine wpAnyH_take (i := 21) (oi := ⟨some 31, _, _, _, _, _⟩) (v := undef) rfl (by kernel_rfl) (by kernel_rfl) (by kernel_rfl) (fun _ _ _ h => h) (Or.inr ⟨by rfl, rfl⟩) ⟨u0, u1, u2⟩ ?restr1_21
        simp only [Act.put, List.setIfInBounds_toArray, List.set_cons_zero, List.set_cons_succ]
        refine wpAnyH_take (i := 22) (oi := ⟨some 32, _, _, _, _, _⟩) (v := undef) rfl (by kernel_rfl) (by kernel_rfl) (by kernel_rfl) (fun _ _ _ h => h) (Or.inr ⟨by rfl, rfl⟩) ⟨u0, u1, u2⟩ ?restr1_22
        simp only [Act.put, List.setIfInBounds_toArray, List.set_cons_zero, List.set_cons_succ]
        refine wpAnyH_take (i := 23) (oi := ⟨some 33, _, _, _, _, _⟩) (v := undef) rfl (by kernel_rfl) (by kernel_rfl) (by kernel_rfl) (fun _ _ _ h => h) (Or.inr ⟨by rfl, rfl⟩) ⟨u0, u1, u2⟩ ?restr1_23
        simp only [Act.put, List.setIfInBounds_toArray, List.set_cons_zero, List.set_cons_succ]
        refine wpAnyH_take (i := 24) (oi := ⟨some 34, _, _, _, _, _⟩) (v := undef) rfl (by kernel_rfl) (by kernel_rfl) (by kernel_rfl) (fun _ _ _ h => h) (Or.inr ⟨by rfl, rfl⟩) ⟨u0, u1, u2⟩ ?restr1_24
        simp only [Act.put, List.setIfInBounds_toArray, List.set_cons_zero, List.set_cons_succ]
        refine wpAnyH_take (i := 25) (oi := ⟨some 35, _, _, _, _, _⟩) (v := undef) rfl (by kernel_rfl) (by kernel_rfl) (by kernel_rfl) (fun _ _ _ h => h) (Or.inr ⟨by rfl, rfl⟩) ⟨u0, u1, u2⟩ ?restr1_25
        simp only [Act.put, List.setIfInBounds_toArray, List.set_cons_zero, List.set_cons_succ]
        refine wpAnyH_take (i := 26) (oi := ⟨some 36, _, _, _, _, _⟩) (v := undef) rfl (by kernel_rfl) (by kernel_rfl) (by kernel_rfl) (fun _ _ _ h => h) (Or.inr ⟨by rfl, rfl⟩) ⟨u0, u1, u2⟩ ?restr1_26
        simp only [Act.put, List.setIfInBounds_toArray, List.set_cons_zero, List.set_cons_succ]
        refine wpAnyH_take (i := 27) (oi := ⟨some 37, _, _, _, _, _⟩) (v := ?vr1_27) rfl (by kernel_rfl) (by kernel_rfl) (by kernel_rfl) (fun _ _ _ h => h) (Or.inl ⟨by rfl, ?hyr1_27⟩) ⟨u0, u1, u2⟩ ?restr1_27
        case hyr1_27 => (intro w hSw; go_simp; try (with_reducible rfl))
        simp only [Act.put, List.setIfInBounds_toArray, List.set_cons_zero, List.set_cons_succ]
        refine wpAnyH_done (by kernel_rfl) ?_ _
        go_wp2
        go_ret
        exact ⟨retB G.out.symm, F.out⟩
      | true =>
        have H := Lib.hid hfit
        clear hfit
        cases g with
        | false =>
          have T2 := Lib.hid (show wRight xs = ((match prevW xs k with | none => true | some q => bef q.data.toList x.data.toList) && wFrom (prevW xs (k + 1)) (xs.drop (k + 1))) by rw [A.out.1, T.out, wFit_live H.out]; rfl)
          go_wp2_with fail
          refine anyH_region (fun w' => w'.cell? ⟨b, off + k * 3, none⟩ = some (.string x) ∧ w'.cell? ⟨b, off + k * 3 + 1, none⟩ = some (.string y) ∧ w'.cell? ⟨b, off + k * 3 + 2, none⟩ = some (.bool false)) (by kernel_rfl) ?_
          refine wpAnyH_take (i := 0) (oi := ⟨some 10, _, _, _, _, _⟩) (v := ?vr2_0) rfl (by kernel_rfl) (by kernel_rfl) (by kernel_rfl) (fun _ _ _ h => h) (Or.inl ⟨by rfl, ?hyr2_0⟩) ⟨x0, x1, x2⟩ ?restr2_0
          case hyr2_0 => (intro w hSw; go_simp; try (with_reducible rfl))
          simp only [Act.put, List.setIfInBounds_toArray, List.set_cons_zero, List.set_cons_succ]
          refine wpAnyH_take (i := 1) (oi := ⟨some 11, _, _, _, _, _⟩) (v := ?vr2_1) rfl (by kernel_rfl) (by kernel_rfl) (by kernel_rfl) (fun _ _ _ h => h) (Or.inl ⟨by rfl, ?hyr2_1⟩) ⟨x0, x1, x2⟩ ?restr2_1
          case hyr2_1 => (intro w hSw; go_simp; try (with_reducible rfl))
          simp only [Act.put, List.setIfInBounds_toArray, List.set_cons_zero, List.set_cons_succ]
          refine wpAnyH_take (i := 2) (oi := ⟨some 12, _, _, _, _, _⟩) (v := ?vr2_2) rfl (by kernel_rfl) (by kernel_rfl) (by kernel_rfl) (fun _ _ _ h => h) (Or.inl ⟨by rfl, ?hyr2_2⟩) ⟨x0, x1, x2⟩ ?restr2_2
          case hyr2_2 => (intro w hSw; have q0 := hSw.1; have q1 := hSw.2.1; have q2 := hSw.2.2; go_simp; try (with_reducible rfl))
          simp only [Act.put, List.setIfInBounds_toArray, List.set_cons_zero, List.set_cons_succ]
          refine wpAnyH_take (i := 3) (oi := ⟨some 13, _, _, _, _, _⟩) (v := ?vr2_3) rfl (by kernel_rfl) (by kernel_rfl) (by kernel_rfl) (fun _ _ _ h => h) (Or.inl ⟨by rfl, ?hyr2_3⟩) ⟨x0, x1, x2⟩ ?restr2_3
          case hyr2_3 => (intro w hSw; go_simp; try (with_reducible rfl))
          simp only [Act.put, List.setIfInBounds_toArray, List.set_cons_zero, List.set_cons_succ]
          refine wpAnyH_take (i := 4) (oi := ⟨some 14, _, _, _, _, _⟩) (v := ?vr2_4) rfl (by kernel_rfl) (by kernel_rfl) (by kernel_rfl) (fun _ _ _ h => h) (Or.inl ⟨by rfl, ?hyr2_4⟩) ⟨x0, x1, x2⟩ ?restr2_4
          case hyr2_4 => (intro w hSw; have q0 := hSw.1; have q1 := hSw.2.1; have q2 := hSw.2.2; go_simp; try (with_reducible rfl))
          simp only [Act.put, List.setIfInBounds_toArray, List.set_cons_zero, List.set_cons_succ]
          refine wpAnyH_take (i := 5) (oi := ⟨some 15, _, _, _, _, _⟩) (v := ?vr2_5) rfl (by kernel_rfl) (by kernel_rfl) (by kernel_rfl) (fun _ _ _ h => h) (Or.inl ⟨by rfl, ?hyr2_5⟩) ⟨x0, x1, x2⟩ ?restr2_5
          case hyr2_5 => (intro w hSw; go_simp; try (with_reducible rfl))
          simp only [Act.put, List.setIfInBounds_toArray, List.set_cons_zero, List.set_cons_succ]
          refine wpAnyH_take (i := 6) (oi := ⟨some 16, _, _, _, _, _⟩) (v := ?vr2_6) rfl (by kernel_rfl) (by kernel_rfl) (by kernel_rfl) (fun _ _ _ h => h) (Or.inl ⟨by rfl, ?hyr2_6⟩) ⟨x0, x1, x2⟩ ?restr2_6
          case hyr2_6 => (intro w hSw; go_simp; try (with_reducible rfl))
          simp only [Act.put, List.setIfInBounds_toArray, List.set_cons_zero, List.set_cons_succ]
          refine wpAnyH_take (i := 7) (oi := ⟨some 17, _, _, _, _, _⟩) (v := ?vr2_7) rfl (by kernel_rfl) (by kernel_rfl) (by kernel_rfl) (fun _ _ _ h => h) (Or.inl ⟨by rfl, ?hyr2_7⟩) ⟨x0, x1, x2⟩ ?restr2_7
          case hyr2_7 => (intro w hSw; have q0 := hSw.1; have q1 := hSw.2.1; have q2 := hSw.2.2; go_simp; try (with_reducible rfl))
          simp only [Act.put, List.setIfInBounds_toArray, List.set_cons_zero, List.set_cons_succ]
          refine wpAnyH_take (i := 8) (oi := ⟨some 18, _, _, _, _, _⟩) (v := ?vr2_8) rfl (by kernel_rfl) (by kernel_rfl) (by kernel_rfl) (fun _ _ _ h => h) (Or.inl ⟨by rfl, ?hyr2_8⟩) ⟨x0, x1, x2⟩ ?restr2_8
          case hyr2_8 => (intro w hSw; go_simp; try (with_reducible rfl))
          simp only [Act.put, List.setIfInBounds_toArray, List.set_cons_zero, List.set_cons_succ]
          refine wpAnyH_take (i := 9) (oi := ⟨some 19, _, _, _, _, _⟩) (v := ?vr2_9) rfl (by kernel_rfl) (by kernel_rfl) (by kernel_rfl) (fun _ _ _ h => h) (Or.inl ⟨by rfl, ?hyr2_9⟩) ⟨x0, x1, x2⟩ ?restr2_9
          case hyr2_9 => (intro w hSw; have q0 := hSw.1; have q1 := hSw.2.1; have q2 := hSw.2.2; go_simp; try (with_reducible rfl))
          simp only [Act.put, List.setIfInBounds_toArray, List.set_cons_zero, List.set_cons_succ]
          refine wpAnyH_take (i := 10) (oi := ⟨some 20, _, _, _, _, _⟩) (v := ?vr2_10) rfl (by kernel_rfl) (by kernel_rfl) (by kernel_rfl) (fun _ _ _ h => h) (Or.inl ⟨by rfl, ?hyr2_10⟩) ⟨x0, x1, x2⟩ ?restr2_10
          case hyr2_10 => (intro w hSw; go_simp; try (with_reducible rfl))
          simp only [Act.put, List.setIfInBounds_toArray, List.set_cons_zero, List.set_cons_succ]
          refine anyH_one (i := 11) (o := ⟨some 21, _, _, _, _, _⟩) (by kernel_rfl) rfl (fun K hK => ?_)
          rw [if_pos (by rfl)]
          go_simp
          refine (refFits_any (x, y) _ M.out.1 M.out.2).mono ?_
          rintro e w3 ⟨rfl, hs⟩
          rw [H.out]
          have F := Lib.hid (A.out.2.1.drew.trans (hs.mono A.out.2.1.drew.size))
          have u0 := (hs.cell (p := ⟨b, off + k * 3, none⟩) (lt_of_cell x0)).trans x0
          have u1 := (hs.cell (p := ⟨b, off + k * 3 + 1, none⟩) (lt_of_cell x1)).trans x1
          have u2 := (hs.cell (p := ⟨b, off + k * 3 + 2, none⟩) (lt_of_cell x2)).trans x2
          clear hs
          refine hK.out _ _ ⟨u0, u1, u2⟩ ?_
          clear hK K
          try simp only [Act.put, List.setIfInBounds_toArray, List.set_cons_zero, List.set_cons_succ]
          refine wpAnyH_take (i := 12) (oi := ⟨some 22, _, _, _, _, _⟩) (v := ?vr2_12) rfl (by kernel_rfl) (by kernel_rfl) (by kernel_rfl) (fun _ _ _ h => h) (Or.inl ⟨by rfl, ?hyr2_12⟩) ⟨u0, u1, u2⟩ ?restr2_12
          case hyr2_12 => (intro w hSw; have q0 := hSw.1; have q1 := hSw.2.1; have q2 := hSw.2.2; go_simp; try (with_reducible rfl))
          simp only [Act.put, List.setIfInBounds_toArray, List.set_cons_zero, List.set_cons_succ]
          refine wpAnyH_take (i := 13) (oi := ⟨some 23, _, _, _, _, _⟩) (v := ?vr2_13) rfl (by kernel_rfl) (by kernel_rfl) (by kernel_rfl) (fun _ _ _ h => h) (Or.inl ⟨by rfl, ?hyr2_13⟩) ⟨u0, u1, u2⟩ ?restr2_13
          case hyr2_13 => (intro w hSw; go_simp; try (with_reducible rfl))
          simp only [Act.put, List.setIfInBounds_toArray, List.set_cons_zero, List.set_cons_succ]
          refine wpAnyH_take (i := 14) (oi := ⟨some 24, _, _, _, _, _⟩) (v := ?vr2_14) rfl (by kernel_rfl) (by kernel_rfl) (by kernel_rfl) (fun _ _ _ h => h) (Or.inl ⟨by rfl, ?hyr2_14⟩) ⟨u0, u1, u2⟩ ?restr2_14
          case hyr2_14 => (intro w hSw; go_simp; try (with_reducible rfl))
          simp only [Act.put, List.setIfInBounds_toArray, List.set_cons_zero, List.set_cons_succ]
          refine wpAnyH_take (i := 15) (oi := ⟨some 25, _, _, _, _, _⟩) (v := ?vr2_15) rfl (by kernel_rfl) (by kernel_rfl) (by kernel_rfl) (fun _ _ _ h => h) (Or.inl ⟨by rfl, ?hyr2_15⟩) ⟨u0, u1, u2⟩ ?restr2_15
          case hyr2_15 => (intro w hSw; go_simp; try (with_reducible rfl))
          simp only [Act.put, List.setIfInBounds_toArray, List.set_cons_zero, List.set_cons_succ]
          refine wpAnyH_take (i := 16) (oi := ⟨some 26, _, _, _, _, _⟩) (v := ?vr2_16) rfl (by kernel_rfl) (by kernel_rfl) (by kernel_rfl) (fun _ _ _ h => h) (Or.inl ⟨by rfl, ?hyr2_16⟩) ⟨u0, u1, u2⟩ ?restr2_16
          case hyr2_16 => (intro w hSw; have q0 := hSw.1; have q1 := hSw.2.1; have q2 := hSw.2.2; go_simp; try (with_reducible rfl))
          simp only [Act.put, List.setIfInBounds_toArray, List.set_cons_zero, List.set_cons_succ]
          refine wpAnyH_take (i := 17) (oi := ⟨some 27, _, _, _, _, _⟩) (v := ?vr2_17) rfl (by kernel_rfl) (by kernel_rfl) (by kernel_rfl) (fun _ _ _ h => h) (Or.inl ⟨by rfl, ?hyr2_17⟩) ⟨u0, u1, u2⟩ ?restr2_17
          case hyr2_17 => (intro w hSw; go_simp; try (with_reducible rfl))
          simp only [Act.put, List.setIfInBounds_toArray, List.set_cons_zero, List.set_cons_succ]
          refine wpAnyH_take (i := 18) (oi := ⟨some 28, _, _, _, _, _⟩) (v := ?vr2_18) rfl (by kernel_rfl) (by kernel_rfl) (by kernel_rfl) (fun _ _ _ h => h) (Or.inl ⟨by rfl, ?hyr2_18⟩) ⟨u0, u1, u2⟩ ?restr2_18
          case hyr2_18 => (intro w hSw; have q0 := hSw.1; have q1 := hSw.2.1; have q2 := hSw.2.2; go_simp; try (with_reducible rfl))
          simp only [Act.put, List.setIfInBounds_toArray, List.set_cons_zero, List.set_cons_succ]
          refine wpAnyH_take (i := 19) (oi := ⟨some 29, _, _, _, _, _⟩) (v := ?vr2_19) rfl (by kernel_rfl) (by kernel_rfl) (by kernel_rfl) (fun _ _ _ h => h) (Or.inl ⟨by rfl, ?hyr2_19⟩) ⟨u0, u1, u2⟩ ?restr2_19
          case hyr2_19 => (intro w hSw; go_simp; try (with_reducible rfl))
          simp only [Act.put, List.setIfInBounds_toArray, List.set_cons_zero, List.set_cons_succ]
          refine wpAnyH_take (i := 20) (oi := ⟨some 30, _, _, _, _, _⟩) (v := undef) rfl (by kernel_rfl) (by kernel_rfl) (by kernel_rfl) (fun _ _ _ h => h) (Or.inr ⟨by rfl, rfl⟩) ⟨u0, u1, u2⟩ ?restr2_20
          simp only [Act.put, List.setIfInBounds_toArray, List.set_cons_zero, List.set_cons_succ]
          refine wpAnyH_take (i := 21) (oi := ⟨some 31, _, _, _, _, _⟩) (v := undef) rfl (by kernel_rfl) (by kernel_rfl) (by kernel_rfl) (fun _ _ _ h => h) (Or.inr ⟨by rfl, rfl⟩) ⟨u0, u1, u2⟩ ?restr2_21
          simp only [Act.put, List.setIfInBounds_toArray, List.set_cons_zero, List.set_cons_succ]
          refine wpAnyH_take (i := 22) (oi := ⟨some 32, _, _, _, _, _⟩) (v := undef) rfl (by kernel_rfl) (by kernel_rfl) (by kernel_rfl) (fun _ _ _ h => h) (Or.inr ⟨by rfl, rfl⟩) ⟨u0, u1, u2⟩ ?restr2_22
          simp only [Act.put, List.setIfInBounds_toArray, List.set_cons_zero, List.set_cons_succ]
          refine wpAnyH_take (i := 23) (oi := ⟨some 33, _, _, _, _, _⟩) (v := undef) rfl (by kernel_rfl) (by kernel_rfl) (by kernel_rfl) (fun _ _ _ h => h) (Or.inr ⟨by rfl, rfl⟩) ⟨u0, u1, u2⟩ ?restr2_23
          simp only [Act.put, List.setIfInBounds_toArray, List.set_cons_zero, List.set_cons_succ]
          refine wpAnyH_take (i := 24) (oi := ⟨some 34, _, _, _, _, _⟩) (v := undef) rfl (by kernel_rfl) (by kernel_rfl) (by kernel_rfl) (fun _ _ _ h => h) (Or.inr ⟨by rfl, rfl⟩) ⟨u0, u1, u2⟩ ?restr2_24
          simp only [Act.put, List.setIfInBounds_toArray, List.set_cons_zero, List.set_cons_succ]
          refine wpAnyH_take (i := 25) (oi := ⟨some 35, _, _, _, _, _⟩) (v := undef) rfl (by kernel_rfl) (by kernel_rfl) (by kernel_rfl) (fun _ _ _ h => h) (Or.inr ⟨by rfl, rfl⟩) ⟨u0, u1, u2⟩ ?restr2_25
          simp only [Act.put, List.setIfInBounds_toArray, List.set_cons_zero, List.set_cons_succ]
          refine wpAnyH_take (i := 26) (oi := ⟨some 36, _, _, _, _, _⟩) (v := ?vr2_26) rfl (by kernel_rfl) (by kernel_rfl) (by kernel_rfl) (fun _ _ _ h => h) (Or.inl ⟨by rfl, ?hyr2_26⟩) ⟨u0, u1, u2⟩ ?restr2_26
          case hyr2_26 => (intro w hSw; go_simp; try (with_reducible rfl))
          simp only [Act.put, List.setIfInBounds_toArray, List.set_cons_zero, List.set_cons_succ]
          refine wpAnyH_take (i := 27) (oi := ⟨some 37, _, _, _, _, _⟩) (v := ?vr2_27) rfl (by kernel_rfl) (by kernel_rfl) (by kernel_rfl) (fun _ _ _ h => h) (Or.inl ⟨by rfl, ?hyr2_27⟩) ⟨u0, u1, u2⟩ ?restr2_27
          case hyr2_27 => (intro w hSw; go_simp; try (with_reducible rfl))
          simp only [Act.put, List.setIfInBounds_toArray, List.set_cons_zero, List.set_cons_succ]
          refine wpAnyH_done (by kernel_rfl) ?_ _
          clear x0 x1 x2
          cases k with
          | zero =>
            have G := Lib.hid (show wRight xs = wFrom (prevW xs (0 + 1)) (xs.drop (0 + 1)) by rw [T2.out]; rfl)
            clear u0 u1 u2
            go_wp2_with fail
            go_quiet (fail)
            go_wp2
            go_roundg (n - (0 + 1))
            case measure => have := A.out.2.2; omega
            case rel => exact ⟨0 + 1, by omega, by go_num, G.out, below_drewN F.out _⟩
          | succ j =>
            obtain ⟨⟨z, zv, zg⟩, hz⟩ : ∃ z, xs[j]? = some z := ⟨_, List.getElem?_eq_getElem (by rw [LN.out]; omega)⟩
            have hd0 := ((V.out.below F.out).cells hz).1
            have M2 := Lib.hid (V.out.2.at hz).1
            have T3 := Lib.hid (show wRight xs = (bef z.data.toList x.data.toList && wFrom (prevW xs (j + 1 + 1)) (xs.drop (j + 1 + 1))) by rw [T2.out, wprev_at hz])
            simp only at hd0
            have hc2 := u0
            have i1 : (0 : Int) ≤ (j : Int) + 1 := by omega
            have i2 : (j : Int) + 1 < (n : Int) := by omega
            have i3 : (0 : Int) ≤ (j : Int) := by omega
            have i4 : (j : Int) < (n : Int) := by omega
            have i5 : IntKind.i64.wrap (j : Int) = (j : Int) := Go.IntWalk.i64_in _ (by omega)
            have e1 : (((j + 1 : Nat) : Int)) = (j : Int) + 1 := rfl
            rw [e1]
            clear e1 hz u0 u1 u2 j3 j4
            have gpos : decide ((0 : Int) < (j : Int) + 1) = true := decide_eq_true (by omega)
            cases hbf : bef z.data.toList x.data.toList with
            | false =>
              have Q := Lib.hid hbf
              clear hbf
              have G := Lib.hid (show wRight xs = false by rw [T3.out, Q.out]; rfl)
              go_wp2_with fail
              go_region_held3 (fun w' => w'.cell? ⟨b, off + j * 3, none⟩ = some (.string z) ∧ w'.cell? ⟨b, off + (j + 1) * 3, none⟩ = some (.string x))
                (first | exact ⟨by assumption, by assumption⟩ | go_keep)
                (first
                  | (go_at_call 50; (with_reducible refine (refBefore_any z x _ M2.out M.out.1).mono ?_); rintro e w4 ⟨rfl, hs⟩; rw [Q.out]; have F3 := Lib.hid (F.out.drew.trans (hs.mono F.out.drew.size)); have hc3 := (hs.cell (p := ⟨b, off + (j + 1) * 3, none⟩) (lt_of_cell hc2)).trans hc2; have hd3 := (hs.cell (p := ⟨b, off + j * 3, none⟩) (lt_of_cell hd0)).trans hd0; clear hs))
              go_wp2
              go_ret
              exact ⟨retB G.out.symm, F3.out⟩
            | true =>
              have Q := Lib.hid hbf
              clear hbf
              have G := Lib.hid (show wRight xs = wFrom (prevW xs (j + 1 + 1)) (xs.drop (j + 1 + 1)) by rw [T3.out, Q.out]; rfl)
              go_wp2_with fail
              go_region_held3 (fun w' => w'.cell? ⟨b, off + j * 3, none⟩ = some (.string z) ∧ w'.cell? ⟨b, off + (j + 1) * 3, none⟩ = some (.string x))
                (first | exact ⟨by assumption, by assumption⟩ | go_keep)
                (first
                  | (go_at_call 50; (with_reducible refine (refBefore_any z x _ M2.out M.out.1).mono ?_); rintro e w4 ⟨rfl, hs⟩; rw [Q.out]; have F3 := Lib.hid (F.out.drew.trans (hs.mono F.out.drew.size)); have hc3 := (hs.cell (p := ⟨b, off + (j + 1) * 3, none⟩) (lt_of_cell hc2)).trans hc2; have hd3 := (hs.cell (p := ⟨b, off + j * 3, none⟩) (lt_of_cell hd0)).trans hd0; clear hs))
              go_wp2
              go_roundg (n - (j + 1 + 1))
              case measure => have := A.out.2.2; omega
              case rel => exact ⟨j + 1 + 1, by omega, by go_num, G.out, F3.out⟩
        | true =>
          cases hy : (y.toList == (⟨#[]⟩ : ByteArray).toList) with
          | false =>
            have G := Lib.hid (show wRight xs = false by rw [A.out.1, T.out, wFit_gone H.out, hy]; rfl)
            have hy2 : (y.toList == []) = false := by simpa using hy
            go_wp2_with fail
            refine anyH_region (fun w' => w'.cell? ⟨b, off + k * 3, none⟩ = some (.string x) ∧ w'.cell? ⟨b, off + k * 3 + 1, none⟩ = some (.string y) ∧ w'.cell? ⟨b, off + k * 3 + 2, none⟩ = some (.bool true)) (by kernel_rfl) ?_
            refine wpAnyH_take (i := 0) (oi := ⟨some 10, _, _, _, _, _⟩) (v := ?vr3_0) rfl (by kernel_rfl) (by kernel_rfl) (by kernel_rfl) (fun _ _ _ h => h) (Or.inl ⟨by rfl, ?hyr3_0⟩) ⟨x0, x1, x2⟩ ?restr3_0
            case hyr3_0 => (intro w hSw; go_simp; try (with_reducible rfl))
            simp only [Act.put, List.setIfInBounds_toArray, List.set_cons_zero, List.set_cons_succ]
            refine wpAnyH_take (i := 1) (oi := ⟨some 11, _, _, _, _, _⟩) (v := ?vr3_1) rfl (by kernel_rfl) (by kernel_rfl) (by kernel_rfl) (fun _ _ _ h => h) (Or.inl ⟨by rfl, ?hyr3_1⟩) ⟨x0, x1, x2⟩ ?restr3_1
            case hyr3_1 => (intro w hSw; go_simp; try (with_reducible rfl))
            simp only [Act.put, List.setIfInBounds_toArray, List.set_cons_zero, List.set_cons_succ]
            refine wpAnyH_take (i := 2) (oi := ⟨some 12, _, _, _, _, _⟩) (v := ?vr3_2) rfl (by kernel_rfl) (by kernel_rfl) (by kernel_rfl) (fun _ _ _ h => h) (Or.inl ⟨by rfl, ?hyr3_2⟩) ⟨x0, x1, x2⟩ ?restr3_2
            case hyr3_2 => (intro w hSw; have q0 := hSw.1; have q1 := hSw.2.1; have q2 := hSw.2.2; go_simp; try (with_reducible rfl))
            simp only [Act.put, List.setIfInBounds_toArray, List.set_cons_zero, List.set_cons_succ]
            refine wpAnyH_take (i := 3) (oi := ⟨some 13, _, _, _, _, _⟩) (v := ?vr3_3) rfl (by kernel_rfl) (by kernel_rfl) (by kernel_rfl) (fun _ _ _ h => h) (Or.inl ⟨by rfl, ?hyr3_3⟩) ⟨x0, x1, x2⟩ ?restr3_3
            case hyr3_3 => (intro w hSw; go_simp; try (with_reducible rfl))
            simp only [Act.put, List.setIfInBounds_toArray, List.set_cons_zero, List.set_cons_succ]
            refine wpAnyH_take (i := 4) (oi := ⟨some 14, _, _, _, _, _⟩) (v := ?vr3_4) rfl (by kernel_rfl) (by kernel_rfl) (by kernel_rfl) (fun _ _ _ h => h) (Or.inl ⟨by rfl, ?hyr3_4⟩) ⟨x0, x1, x2⟩ ?restr3_4
            case hyr3_4 => (intro w hSw; have q0 := hSw.1; have q1 := hSw.2.1; have q2 := hSw.2.2; go_simp; try (with_reducible rfl))
            simp only [Act.put, List.setIfInBounds_toArray, List.set_cons_zero, List.set_cons_succ]
            refine wpAnyH_take (i := 5) (oi := ⟨some 15, _, _, _, _, _⟩) (v := ?vr3_5) rfl (by kernel_rfl) (by kernel_rfl) (by kernel_rfl) (fun _ _ _ h => h) (Or.inl ⟨by rfl, ?hyr3_5⟩) ⟨x0, x1, x2⟩ ?restr3_5
            case hyr3_5 => (intro w hSw; go_simp; try (with_reducible rfl))
            simp only [Act.put, List.setIfInBounds_toArray, List.set_cons_zero, List.set_cons_succ]
            refine wpAnyH_take (i := 6) (oi := ⟨some 16, _, _, _, _, _⟩) (v := ?vr3_6) rfl (by kernel_rfl) (by kernel_rfl) (by kernel_rfl) (fun _ _ _ h => h) (Or.inl ⟨by rfl, ?hyr3_6⟩) ⟨x0, x1, x2⟩ ?restr3_6
            case hyr3_6 => (intro w hSw; go_simp; try (with_reducible rfl))
            simp only [Act.put, List.setIfInBounds_toArray, List.set_cons_zero, List.set_cons_succ]
            refine wpAnyH_take (i := 7) (oi := ⟨some 17, _, _, _, _, _⟩) (v := ?vr3_7) rfl (by kernel_rfl) (by kernel_rfl) (by kernel_rfl) (fun _ _ _ h => h) (Or.inl ⟨by rfl, ?hyr3_7⟩) ⟨x0, x1, x2⟩ ?restr3_7
            case hyr3_7 => (intro w hSw; have q0 := hSw.1; have q1 := hSw.2.1; have q2 := hSw.2.2; go_simp; try (with_reducible rfl))
            simp only [Act.put, List.setIfInBounds_toArray, List.set_cons_zero, List.set_cons_succ]
            refine wpAnyH_take (i := 8) (oi := ⟨some 18, _, _, _, _, _⟩) (v := ?vr3_8) rfl (by kernel_rfl) (by kernel_rfl) (by kernel_rfl) (fun _ _ _ h => h) (Or.inl ⟨by rfl, ?hyr3_8⟩) ⟨x0, x1, x2⟩ ?restr3_8
            case hyr3_8 => (intro w hSw; go_simp; try (with_reducible rfl))
            simp only [Act.put, List.setIfInBounds_toArray, List.set_cons_zero, List.set_cons_succ]
            refine wpAnyH_take (i := 9) (oi := ⟨some 19, _, _, _, _, _⟩) (v := ?vr3_9) rfl (by kernel_rfl) (by kernel_rfl) (by kernel_rfl) (fun _ _ _ h => h) (Or.inl ⟨by rfl, ?hyr3_9⟩) ⟨x0, x1, x2⟩ ?restr3_9
            case hyr3_9 => (intro w hSw; have q0 := hSw.1; have q1 := hSw.2.1; have q2 := hSw.2.2; go_simp; try (with_reducible rfl))
            simp only [Act.put, List.setIfInBounds_toArray, List.set_cons_zero, List.set_cons_succ]
            refine wpAnyH_take (i := 10) (oi := ⟨some 20, _, _, _, _, _⟩) (v := ?vr3_10) rfl (by kernel_rfl) (by kernel_rfl) (by kernel_rfl) (fun _ _ _ h => h) (Or.inl ⟨by rfl, ?hyr3_10⟩) ⟨x0, x1, x2⟩ ?restr3_10
            case hyr3_10 => (intro w hSw; go_simp; try (with_reducible rfl))
            simp only [Act.put, List.setIfInBounds_toArray, List.set_cons_zero, List.set_cons_succ]
            refine anyH_one (i := 11) (o := ⟨some 21, _, _, _, _, _⟩) (by kernel_rfl) rfl (fun K hK => ?_)
            rw [if_pos (by rfl)]
            go_simp
            refine (refFits_any (x, y) _ M.out.1 M.out.2).mono ?_
            rintro e w3 ⟨rfl, hs⟩
            rw [H.out]
            have F := Lib.hid (A.out.2.1.drew.trans (hs.mono A.out.2.1.drew.size))
            have u0 := (hs.cell (p := ⟨b, off + k * 3, none⟩) (lt_of_cell x0)).trans x0
            have u1 := (hs.cell (p := ⟨b, off + k * 3 + 1, none⟩) (lt_of_cell x1)).trans x1
            have u2 := (hs.cell (p := ⟨b, off + k * 3 + 2, none⟩) (lt_of_cell x2)).trans x2
            clear hs
            refine hK.out _ _ ⟨u0, u1, u2⟩ ?_
            clear hK K
            try simp only [Act.put, List.setIfInBounds_toArray, List.set_cons_zero, List.set_cons_succ]
            refine wpAnyH_take (i := 12) (oi := ⟨some 22, _, _, _, _, _⟩) (v := ?vr3_12) rfl (by kernel_rfl) (by kernel_rfl) (by kernel_rfl) (fun _ _ _ h => h) (Or.inl ⟨by rfl, ?hyr3_12⟩) ⟨u0, u1, u2⟩ ?restr3_12
            case hyr3_12 => (intro w hSw; have q0 := hSw.1; have q1 := hSw.2.1; have q2 := hSw.2.2; go_simp; try (with_reducible rfl))
            simp only [Act.put, List.setIfInBounds_toArray, List.set_cons_zero, List.set_cons_succ]
            refine wpAnyH_take (i := 13) (oi := ⟨some 23, _, _, _, _, _⟩) (v := ?vr3_13) rfl (by kernel_rfl) (by kernel_rfl) (by kernel_rfl) (fun _ _ _ h => h) (Or.inl ⟨by rfl, ?hyr3_13⟩) ⟨u0, u1, u2⟩ ?restr3_13
            case hyr3_13 => (intro w hSw; go_simp; try (with_reducible rfl))
            simp only [Act.put, List.setIfInBounds_toArray, List.set_cons_zero, List.set_cons_succ]
            refine wpAnyH_take (i := 14) (oi := ⟨some 24, _, _, _, _, _⟩) (v := ?vr3_14) rfl (by kernel_rfl) (by kernel_rfl) (by kernel_rfl) (fun _ _ _ h => h) (Or.inl ⟨by rfl, ?hyr3_14⟩) ⟨u0, u1, u2⟩ ?restr3_14
            case hyr3_14 => (intro w hSw; go_simp; try (with_reducible rfl))
            simp only [Act.put, List.setIfInBounds_toArray, List.set_cons_zero, List.set_cons_succ]
            refine wpAnyH_take (i := 15) (oi := ⟨some 25, _, _, _, _, _⟩) (v := ?vr3_15) rfl (by kernel_rfl) (by kernel_rfl) (by kernel_rfl) (fun _ _ _ h => h) (Or.inl ⟨by rfl, ?hyr3_15⟩) ⟨u0, u1, u2⟩ ?restr3_15
            case hyr3_15 => (intro w hSw; go_simp; try (with_reducible rfl))
            simp only [Act.put, List.setIfInBounds_toArray, List.set_cons_zero, List.set_cons_succ]
            refine wpAnyH_take (i := 16) (oi := ⟨some 26, _, _, _, _, _⟩) (v := ?vr3_16) rfl (by kernel_rfl) (by kernel_rfl) (by kernel_rfl) (fun _ _ _ h => h) (Or.inl ⟨by rfl, ?hyr3_16⟩) ⟨u0, u1, u2⟩ ?restr3_16
            case hyr3_16 => (intro w hSw; have q0 := hSw.1; have q1 := hSw.2.1; have q2 := hSw.2.2; go_simp; try (with_reducible rfl))
            simp only [Act.put, List.setIfInBounds_toArray, List.set_cons_zero, List.set_cons_succ]
            refine wpAnyH_take (i := 17) (oi := ⟨some 27, _, _, _, _, _⟩) (v := ?vr3_17) rfl (by kernel_rfl) (by kernel_rfl) (by kernel_rfl) (fun _ _ _ h => h) (Or.inl ⟨by rfl, ?hyr3_17⟩) ⟨u0, u1, u2⟩ ?restr3_17
            case hyr3_17 => (intro w hSw; go_simp; try (with_reducible rfl))
            simp only [Act.put, List.setIfInBounds_toArray, List.set_cons_zero, List.set_cons_succ]
            refine wpAnyH_take (i := 18) (oi := ⟨some 28, _, _, _, _, _⟩) (v := ?vr3_18) rfl (by kernel_rfl) (by kernel_rfl) (by kernel_rfl) (fun _ _ _ h => h) (Or.inl ⟨by rfl, ?hyr3_18⟩) ⟨u0, u1, u2⟩ ?restr3_18
            case hyr3_18 => (intro w hSw; have q0 := hSw.1; have q1 := hSw.2.1; have q2 := hSw.2.2; go_simp; try (with_reducible rfl))
            simp only [Act.put, List.setIfInBounds_toArray, List.set_cons_zero, List.set_cons_succ]
            refine wpAnyH_take (i := 19) (oi := ⟨some 29, _, _, _, _, _⟩) (v := ?vr3_19) rfl (by kernel_rfl) (by kernel_rfl) (by kernel_rfl) (fun _ _ _ h => h) (Or.inl ⟨by rfl, ?hyr3_19⟩) ⟨u0, u1, u2⟩ ?restr3_19
            case hyr3_19 => (intro w hSw; go_simp; try (with_reducible rfl))
            simp only [Act.put, List.setIfInBounds_toArray, List.set_cons_zero, List.set_cons_succ]
            refine wpAnyH_take (i := 20) (oi := ⟨some 30, _, _, _, _, _⟩) (v := ?vr3_20) rfl (by kernel_rfl) (by kernel_rfl) (by kernel_rfl) (fun _ _ _ h => h) (Or.inl ⟨by rfl, ?hyr3_20⟩) ⟨u0, u1, u2⟩ ?restr3_20
            case hyr3_20 => (intro w hSw; go_simp; try (with_reducible rfl))
            simp only [Act.put, List.setIfInBounds_toArray, List.set_cons_zero, List.set_cons_succ]
            refine wpAnyH_take (i := 21) (oi := ⟨some 31, _, _, _, _, _⟩) (v := ?vr3_21) rfl (by kernel_rfl) (by kernel_rfl) (by kernel_rfl) (fun _ _ _ h => h) (Or.inl ⟨by rfl, ?hyr3_21⟩) ⟨u0, u1, u2⟩ ?restr3_21
            case hyr3_21 => (intro w hSw; go_simp; try (with_reducible rfl))
            simp only [Act.put, List.setIfInBounds_toArray, List.set_cons_zero, List.set_cons_succ]
            refine wpAnyH_take (i := 22) (oi := ⟨some 32, _, _, _, _, _⟩) (v := ?vr3_22) rfl (by kernel_rfl) (by kernel_rfl) (by kernel_rfl) (fun _ _ _ h => h) (Or.inl ⟨by rfl, ?hyr3_22⟩) ⟨u0, u1, u2⟩ ?restr3_22
            case hyr3_22 => (intro w hSw; have q0 := hSw.1; have q1 := hSw.2.1; have q2 := hSw.2.2; go_simp; try (with_reducible rfl))
            simp only [Act.put, List.setIfInBounds_toArray, List.set_cons_zero, List.set_cons_succ]
            refine wpAnyH_take (i := 23) (oi := ⟨some 33, _, _, _, _, _⟩) (v := ?vr3_23) rfl (by kernel_rfl) (by kernel_rfl) (by kernel_rfl) (fun _ _ _ h => h) (Or.inl ⟨by rfl, ?hyr3_23⟩) ⟨u0, u1, u2⟩ ?restr3_23
            case hyr3_23 => (intro w hSw; go_simp; try (with_reducible rfl))
            simp only [Act.put, List.setIfInBounds_toArray, List.set_cons_zero, List.set_cons_succ]
            refine wpAnyH_take (i := 24) (oi := ⟨some 34, _, _, _, _, _⟩) (v := ?vr3_24) rfl (by kernel_rfl) (by kernel_rfl) (by kernel_rfl) (fun _ _ _ h => h) (Or.inl ⟨by rfl, ?hyr3_24⟩) ⟨u0, u1, u2⟩ ?restr3_24
            case hyr3_24 => (intro w hSw; have q0 := hSw.1; have q1 := hSw.2.1; have q2 := hSw.2.2; go_simp; try (with_reducible rfl))
            simp only [Act.put, List.setIfInBounds_toArray, List.set_cons_zero, List.set_cons_succ]
            refine wpAnyH_take (i := 25) (oi := ⟨some 35, _, _, _, _, _⟩) (v := ?vr3_25) rfl (by kernel_rfl) (by kernel_rfl) (by kernel_rfl) (fun _ _ _ h => h) (Or.inl ⟨by rfl, ?hyr3_25⟩) ⟨u0, u1, u2⟩ ?restr3_25
            case hyr3_25 => (intro w hSw; have q0 := hSw.1; have q1 := hSw.2.1; have q2 := hSw.2.2; go_simp; try (with_reducible rfl))
            simp only [Act.put, List.setIfInBounds_toArray, List.set_cons_zero, List.set_cons_succ]
            refine wpAnyH_take (i := 26) (oi := ⟨some 36, _, _, _, _, _⟩) (v := ?vr3_26) rfl (by kernel_rfl) (by kernel_rfl) (by kernel_rfl) (fun _ _ _ h => h) (Or.inl ⟨by rfl, ?hyr3_26⟩) ⟨u0, u1, u2⟩ ?restr3_26
            case hyr3_26 => (intro w hSw; go_simp; try (with_reducible rfl))
            simp only [Act.put, List.setIfInBounds_toArray, List.set_cons_zero, List.set_cons_succ]
            refine wpAnyH_take (i := 27) (oi := ⟨some 37, _, _, _, _, _⟩) (v := ?vr3_27) rfl (by kernel_rfl) (by kernel_rfl) (by kernel_rfl) (fun _ _ _ h => h) (Or.inl ⟨by rfl, ?hyr3_27⟩) ⟨u0, u1, u2⟩ ?restr3_27
            case hyr3_27 => (intro w hSw; go_simp; try (with_reducible rfl))
            simp only [Act.put, List.setIfInBounds_toArray, List.set_cons_zero, List.set_cons_succ]
            refine wpAnyH_done (by kernel_rfl) ?_ _
            go_wp2
            go_ret
            exact ⟨retB G.out.symm, F.out⟩
          | true =>
            have T2 := Lib.hid (show wRight xs = ((match prevW xs k with | none => true | some q => bef q.data.toList x.data.toList) && wFrom (prevW xs (k + 1)) (xs.drop (k + 1))) by rw [A.out.1, T.out, wFit_gone H.out, hy]; rfl)
            have hy2 : (y.toList == []) = true := by simpa using hy
            go_wp2_with fail
            refine anyH_region (fun w' => w'.cell? ⟨b, off + k * 3, none⟩ = some (.string x) ∧ w'.cell? ⟨b, off + k * 3 + 1, none⟩ = some (.string y) ∧ w'.cell? ⟨b, off + k * 3 + 2, none⟩ = some (.bool true)) (by kernel_rfl) ?_
            refine wpAnyH_take (i := 0) (oi := ⟨some 10, _, _, _, _, _⟩) (v := ?vr4_0) rfl (by kernel_rfl) (by kernel_rfl) (by kernel_rfl) (fun _ _ _ h => h) (Or.inl ⟨by rfl, ?hyr4_0⟩) ⟨x0, x1, x2⟩ ?restr4_0
            case hyr4_0 => (intro w hSw; go_simp; try (with_reducible rfl))
            simp only [Act.put, List.setIfInBounds_toArray, List.set_cons_zero, List.set_cons_succ]
            refine wpAnyH_take (i := 1) (oi := ⟨some 11, _, _, _, _, _⟩) (v := ?vr4_1) rfl (by kernel_rfl) (by kernel_rfl) (by kernel_rfl) (fun _ _ _ h => h) (Or.inl ⟨by rfl, ?hyr4_1⟩) ⟨x0, x1, x2⟩ ?restr4_1
            case hyr4_1 => (intro w hSw; go_simp; try (with_reducible rfl))
            simp only [Act.put, List.setIfInBounds_toArray, List.set_cons_zero, List.set_cons_succ]
            refine wpAnyH_take (i := 2) (oi := ⟨some 12, _, _, _, _, _⟩) (v := ?vr4_2) rfl (by kernel_rfl) (by kernel_rfl) (by kernel_rfl) (fun _ _ _ h => h) (Or.inl ⟨by rfl, ?hyr4_2⟩) ⟨x0, x1, x2⟩ ?restr4_2
            case hyr4_2 => (intro w hSw; have q0 := hSw.1; have q1 := hSw.2.1; have q2 := hSw.2.2; go_simp; try (with_reducible rfl))
            simp only [Act.put, List.setIfInBounds_toArray, List.set_cons_zero, List.set_cons_succ]
            refine wpAnyH_take (i := 3) (oi := ⟨some 13, _, _, _, _, _⟩) (v := ?vr4_3) rfl (by kernel_rfl) (by kernel_rfl) (by kernel_rfl) (fun _ _ _ h => h) (Or.inl ⟨by rfl, ?hyr4_3⟩) ⟨x0, x1, x2⟩ ?restr4_3
            case hyr4_3 => (intro w hSw; go_simp; try (with_reducible rfl))
            simp only [Act.put, List.setIfInBounds_toArray, List.set_cons_zero, List.set_cons_succ]
            refine wpAnyH_take (i := 4) (oi := ⟨some 14, _, _, _, _, _⟩) (v := ?vr4_4) rfl (by kernel_rfl) (by kernel_rfl) (by kernel_rfl) (fun _ _ _ h => h) (Or.inl ⟨by rfl, ?hyr4_4⟩) ⟨x0, x1, x2⟩ ?restr4_4
            case hyr4_4 => (intro w hSw; have q0 := hSw.1; have q1 := hSw.2.1; have q2 := hSw.2.2; go_simp; try (with_reducible rfl))
            simp only [Act.put, List.setIfInBounds_toArray, List.set_cons_zero, List.set_cons_succ]
            refine wpAnyH_take (i := 5) (oi := ⟨some 15, _, _, _, _, _⟩) (v := ?vr4_5) rfl (by kernel_rfl) (by kernel_rfl) (by kernel_rfl) (fun _ _ _ h => h) (Or.inl ⟨by rfl, ?hyr4_5⟩) ⟨x0, x1, x2⟩ ?restr4_5
            case hyr4_5 => (intro w hSw; go_simp; try (with_reducible rfl))
            simp only [Act.put, List.setIfInBounds_toArray, List.set_cons_zero, List.set_cons_succ]
            refine wpAnyH_take (i := 6) (oi := ⟨some 16, _, _, _, _, _⟩) (v := ?vr4_6) rfl (by kernel_rfl) (by kernel_rfl) (by kernel_rfl) (fun _ _ _ h => h) (Or.inl ⟨by rfl, ?hyr4_6⟩) ⟨x0, x1, x2⟩ ?restr4_6
            case hyr4_6 => (intro w hSw; go_simp; try (with_reducible rfl))
            simp only [Act.put, List.setIfInBounds_toArray, List.set_cons_zero, List.set_cons_succ]
            refine wpAnyH_take (i := 7) (oi := ⟨some 17, _, _, _, _, _⟩) (v := ?vr4_7) rfl (by kernel_rfl) (by kernel_rfl) (by kernel_rfl) (fun _ _ _ h => h) (Or.inl ⟨by rfl, ?hyr4_7⟩) ⟨x0, x1, x2⟩ ?restr4_7
            case hyr4_7 => (intro w hSw; have q0 := hSw.1; have q1 := hSw.2.1; have q2 := hSw.2.2; go_simp; try (with_reducible rfl))
            simp only [Act.put, List.setIfInBounds_toArray, List.set_cons_zero, List.set_cons_succ]
            refine wpAnyH_take (i := 8) (oi := ⟨some 18, _, _, _, _, _⟩) (v := ?vr4_8) rfl (by kernel_rfl) (by kernel_rfl) (by kernel_rfl) (fun _ _ _ h => h) (Or.inl ⟨by rfl, ?hyr4_8⟩) ⟨x0, x1, x2⟩ ?restr4_8
            case hyr4_8 => (intro w hSw; go_simp; try (with_reducible rfl))
            simp only [Act.put, List.setIfInBounds_toArray, List.set_cons_zero, List.set_cons_succ]
            refine wpAnyH_take (i := 9) (oi := ⟨some 19, _, _, _, _, _⟩) (v := ?vr4_9) rfl (by kernel_rfl) (by kernel_rfl) (by kernel_rfl) (fun _ _ _ h => h) (Or.inl ⟨by rfl, ?hyr4_9⟩) ⟨x0, x1, x2⟩ ?restr4_9
            case hyr4_9 => (intro w hSw; have q0 := hSw.1; have q1 := hSw.2.1; have q2 := hSw.2.2; go_simp; try (with_reducible rfl))
            simp only [Act.put, List.setIfInBounds_toArray, List.set_cons_zero, List.set_cons_succ]
            refine wpAnyH_take (i := 10) (oi := ⟨some 20, _, _, _, _, _⟩) (v := ?vr4_10) rfl (by kernel_rfl) (by kernel_rfl) (by kernel_rfl) (fun _ _ _ h => h) (Or.inl ⟨by rfl, ?hyr4_10⟩) ⟨x0, x1, x2⟩ ?restr4_10
            case hyr4_10 => (intro w hSw; go_simp; try (with_reducible rfl))
            simp only [Act.put, List.setIfInBounds_toArray, List.set_cons_zero, List.set_cons_succ]
            refine anyH_one (i := 11) (o := ⟨some 21, _, _, _, _, _⟩) (by kernel_rfl) rfl (fun K hK => ?_)
            rw [if_pos (by rfl)]
            go_simp
            refine (refFits_any (x, y) _ M.out.1 M.out.2).mono ?_
            rintro e w3 ⟨rfl, hs⟩
            rw [H.out]
            have F := Lib.hid (A.out.2.1.drew.trans (hs.mono A.out.2.1.drew.size))
            have u0 := (hs.cell (p := ⟨b, off + k * 3, none⟩) (lt_of_cell x0)).trans x0
            have u1 := (hs.cell (p := ⟨b, off + k * 3 + 1, none⟩) (lt_of_cell x1)).trans x1
            have u2 := (hs.cell (p := ⟨b, off + k * 3 + 2, none⟩) (lt_of_cell x2)).trans x2
            clear hs
            refine hK.out _ _ ⟨u0, u1, u2⟩ ?_
            clear hK K
            try simp only [Act.put, List.setIfInBounds_toArray, List.set_cons_zero, List.set_cons_succ]
            refine wpAnyH_take (i := 12) (oi := ⟨some 22, _, _, _, _, _⟩) (v := ?vr4_12) rfl (by kernel_rfl) (by kernel_rfl) (by kernel_rfl) (fun _ _ _ h => h) (Or.inl ⟨by rfl, ?hyr4_12⟩) ⟨u0, u1, u2⟩ ?restr4_12
            case hyr4_12 => (intro w hSw; have q0 := hSw.1; have q1 := hSw.2.1; have q2 := hSw.2.2; go_simp; try (with_reducible rfl))
            simp only [Act.put, List.setIfInBounds_toArray, List.set_cons_zero, List.set_cons_succ]
            refine wpAnyH_take (i := 13) (oi := ⟨some 23, _, _, _, _, _⟩) (v := ?vr4_13) rfl (by kernel_rfl) (by kernel_rfl) (by kernel_rfl) (fun _ _ _ h => h) (Or.inl ⟨by rfl, ?hyr4_13⟩) ⟨u0, u1, u2⟩ ?restr4_13
            case hyr4_13 => (intro w hSw; go_simp; try (with_reducible rfl))
            simp only [Act.put, List.setIfInBounds_toArray, List.set_cons_zero, List.set_cons_succ]
            refine wpAnyH_take (i := 14) (oi := ⟨some 24, _, _, _, _, _⟩) (v := ?vr4_14) rfl (by kernel_rfl) (by kernel_rfl) (by kernel_rfl) (fun _ _ _ h => h) (Or.inl ⟨by rfl, ?hyr4_14⟩) ⟨u0, u1, u2⟩ ?restr4_14
            case hyr4_14 => (intro w hSw; go_simp; try (with_reducible rfl))
            simp only [Act.put, List.setIfInBounds_toArray, List.set_cons_zero, List.set_cons_succ]
            refine wpAnyH_take (i := 15) (oi := ⟨some 25, _, _, _, _, _⟩) (v := ?vr4_15) rfl (by kernel_rfl) (by kernel_rfl) (by kernel_rfl) (fun _ _ _ h => h) (Or.inl ⟨by rfl, ?hyr4_15⟩) ⟨u0, u1, u2⟩ ?restr4_15
            case hyr4_15 => (intro w hSw; go_simp; try (with_reducible rfl))
            simp only [Act.put, List.setIfInBounds_toArray, List.set_cons_zero, List.set_cons_succ]
            refine wpAnyH_take (i := 16) (oi := ⟨some 26, _, _, _, _, _⟩) (v := ?vr4_16) rfl (by kernel_rfl) (by kernel_rfl) (by kernel_rfl) (fun _ _ _ h => h) (Or.inl ⟨by rfl, ?hyr4_16⟩) ⟨u0, u1, u2⟩ ?restr4_16
            case hyr4_16 => (intro w hSw; have q0 := hSw.1; have q1 := hSw.2.1; have q2 := hSw.2.2; go_simp; try (with_reducible rfl))
            simp only [Act.put, List.setIfInBounds_toArray, List.set_cons_zero, List.set_cons_succ]
            refine wpAnyH_take (i := 17) (oi := ⟨some 27, _, _, _, _, _⟩) (v := ?vr4_17) rfl (by kernel_rfl) (by kernel_rfl) (by kernel_rfl) (fun _ _ _ h => h) (Or.inl ⟨by rfl, ?hyr4_17⟩) ⟨u0, u1, u2⟩ ?restr4_17
            case hyr4_17 => (intro w hSw; go_simp; try (with_reducible rfl))
            simp only [Act.put, List.setIfInBounds_toArray, List.set_cons_zero, List.set_cons_succ]
            refine wpAnyH_take (i := 18) (oi := ⟨some 28, _, _, _, _, _⟩) (v := ?vr4_18) rfl (by kernel_rfl) (by kernel_rfl) (by kernel_rfl) (fun _ _ _ h => h) (Or.inl ⟨by rfl, ?hyr4_18⟩) ⟨u0, u1, u2⟩ ?restr4_18
            case hyr4_18 => (intro w hSw; have q0 := hSw.1; have q1 := hSw.2.1; have q2 := hSw.2.2; go_simp; try (with_reducible rfl))
            simp only [Act.put, List.setIfInBounds_toArray, List.set_cons_zero, List.set_cons_succ]
            refine wpAnyH_take (i := 19) (oi := ⟨some 29, _, _, _, _, _⟩) (v := ?vr4_19) rfl (by kernel_rfl) (by kernel_rfl) (by kernel_rfl) (fun _ _ _ h => h) (Or.inl ⟨by rfl, ?hyr4_19⟩) ⟨u0, u1, u2⟩ ?restr4_19
            case hyr4_19 => (intro w hSw; go_simp; try (with_reducible rfl))
            simp only [Act.put, List.setIfInBounds_toArray, List.set_cons_zero, List.set_cons_succ]
            refine wpAnyH_take (i := 20) (oi := ⟨some 30, _, _, _, _, _⟩) (v := ?vr4_20) rfl (by kernel_rfl) (by kernel_rfl) (by kernel_rfl) (fun _ _ _ h => h) (Or.inl ⟨by rfl, ?hyr4_20⟩) ⟨u0, u1, u2⟩ ?restr4_20
            case hyr4_20 => (intro w hSw; go_simp; try (with_reducible rfl))
            simp only [Act.put, List.setIfInBounds_toArray, List.set_cons_zero, List.set_cons_succ]
            refine wpAnyH_take (i := 21) (oi := ⟨some 31, _, _, _, _, _⟩) (v := ?vr4_21) rfl (by kernel_rfl) (by kernel_rfl) (by kernel_rfl) (fun _ _ _ h => h) (Or.inl ⟨by rfl, ?hyr4_21⟩) ⟨u0, u1, u2⟩ ?restr4_21
            case hyr4_21 => (intro w hSw; go_simp; try (with_reducible rfl))
            simp only [Act.put, List.setIfInBounds_toArray, List.set_cons_zero, List.set_cons_succ]
            refine wpAnyH_take (i := 22) (oi := ⟨some 32, _, _, _, _, _⟩) (v := ?vr4_22) rfl (by kernel_rfl) (by kernel_rfl) (by kernel_rfl) (fun _ _ _ h => h) (Or.inl ⟨by rfl, ?hyr4_22⟩) ⟨u0, u1, u2⟩ ?restr4_22
            case hyr4_22 => (intro w hSw; have q0 := hSw.1; have q1 := hSw.2.1; have q2 := hSw.2.2; go_simp; try (with_reducible rfl))
            simp only [Act.put, List.setIfInBounds_toArray, List.set_cons_zero, List.set_cons_succ]
            refine wpAnyH_take (i := 23) (oi := ⟨some 33, _, _, _, _, _⟩) (v := ?vr4_23) rfl (by kernel_rfl) (by kernel_rfl) (by kernel_rfl) (fun _ _ _ h => h) (Or.inl ⟨by rfl, ?hyr4_23⟩) ⟨u0, u1, u2⟩ ?restr4_23
            case hyr4_23 => (intro w hSw; go_simp; try (with_reducible rfl))
            simp only [Act.put, List.setIfInBounds_toArray, List.set_cons_zero, List.set_cons_succ]
            refine wpAnyH_take (i := 24) (oi := ⟨some 34, _, _, _, _, _⟩) (v := ?vr4_24) rfl (by kernel_rfl) (by kernel_rfl) (by kernel_rfl) (fun _ _ _ h => h) (Or.inl ⟨by rfl, ?hyr4_24⟩) ⟨u0, u1, u2⟩ ?restr4_24
            case hyr4_24 => (intro w hSw; have q0 := hSw.1; have q1 := hSw.2.1; have q2 := hSw.2.2; go_simp; try (with_reducible rfl))
            simp only [Act.put, List.setIfInBounds_toArray, List.set_cons_zero, List.set_cons_succ]
            refine wpAnyH_take (i := 25) (oi := ⟨some 35, _, _, _, _, _⟩) (v := ?vr4_25) rfl (by kernel_rfl) (by kernel_rfl) (by kernel_rfl) (fun _ _ _ h => h) (Or.inl ⟨by rfl, ?hyr4_25⟩) ⟨u0, u1, u2⟩ ?restr4_25
            case hyr4_25 => (intro w hSw; have q0 := hSw.1; have q1 := hSw.2.1; have q2 := hSw.2.2; go_simp; try (with_reducible rfl))
            simp only [Act.put, List.setIfInBounds_toArray, List.set_cons_zero, List.set_cons_succ]
            refine wpAnyH_take (i := 26) (oi := ⟨some 36, _, _, _, _, _⟩) (v := ?vr4_26) rfl (by kernel_rfl) (by kernel_rfl) (by kernel_rfl) (fun _ _ _ h => h) (Or.inl ⟨by rfl, ?hyr4_26⟩) ⟨u0, u1, u2⟩ ?restr4_26
            case hyr4_26 => (intro w hSw; go_simp; try (with_reducible rfl))
            simp only [Act.put, List.setIfInBounds_toArray, List.set_cons_zero, List.set_cons_succ]
            refine wpAnyH_take (i := 27) (oi := ⟨some 37, _, _, _, _, _⟩) (v := ?vr4_27) rfl (by kernel_rfl) (by kernel_rfl) (by kernel_rfl) (fun _ _ _ h => h) (Or.inl ⟨by rfl, ?hyr4_27⟩) ⟨u0, u1, u2⟩ ?restr4_27
            case hyr4_27 => (intro w hSw; go_simp; try (with_reducible rfl))
            simp only [Act.put, List.setIfInBounds_toArray, List.set_cons_zero, List.set_cons_succ]
            refine wpAnyH_done (by kernel_rfl) ?_ _
            clear hy hy2
            clear x0 x1 x2
            cases k with
            | zero =>
              have G := Lib.hid (show wRight xs = wFrom (prevW xs (0 + 1)) (xs.drop (0 + 1)) by rw [T2.out]; rfl)
              clear u0 u1 u2
              go_wp2_with fail
              go_quiet (fail)
              go_wp2
              go_roundg (n - (0 + 1))
              case measure => have := A.out.2.2; omega
              case rel => exact ⟨0 + 1, by omega, by go_num, G.out, below_drewN F.out _⟩
            | succ j =>
              obtain ⟨⟨z, zv, zg⟩, hz⟩ : ∃ z, xs[j]? = some z := ⟨_, List.getElem?_eq_getElem (by rw [LN.out]; omega)⟩
              have hd0 := ((V.out.below F.out).cells hz).1
              have M2 := Lib.hid (V.out.2.at hz).1
              have T3 := Lib.hid (show wRight xs = (bef z.data.toList x.data.toList && wFrom (prevW xs (j + 1 + 1)) (xs.drop (j + 1 + 1))) by rw [T2.out, wprev_at hz])
              simp only at hd0
              have hc2 := u0
              have i1 : (0 : Int) ≤ (j : Int) + 1 := by omega
              have i2 : (j : Int) + 1 < (n : Int) := by omega
              have i3 : (0 : Int) ≤ (j : Int) := by omega
              have i4 : (j : Int) < (n : Int) := by omega
              have i5 : IntKind.i64.wrap (j : Int) = (j : Int) := Go.IntWalk.i64_in _ (by omega)
              have e1 : (((j + 1 : Nat) : Int)) = (j : Int) + 1 := rfl
              rw [e1]
              clear e1 hz u0 u1 u2 j3 j4
              have gpos : decide ((0 : Int) < (j : Int) + 1) = true := decide_eq_true (by omega)
              cases hbf : bef z.data.toList x.data.toList with
              | false =>
                have Q := Lib.hid hbf
                clear hbf
                have G := Lib.hid (show wRight xs = false by rw [T3.out, Q.out]; rfl)
                go_wp2_with fail
                go_region_held3 (fun w' => w'.cell? ⟨b, off + j * 3, none⟩ = some (.string z) ∧ w'.cell? ⟨b, off + (j + 1) * 3, none⟩ = some (.string x))
                  (first | exact ⟨by assumption, by assumption⟩ | go_keep)
                  (first
                    | (go_at_call 50; (with_reducible refine (refBefore_any z x _ M2.out M.out.1).mono ?_); rintro e w4 ⟨rfl, hs⟩; rw [Q.out]; have F3 := Lib.hid (F.out.drew.trans (hs.mono F.out.drew.size)); have hc3 := (hs.cell (p := ⟨b, off + (j + 1) * 3, none⟩) (lt_of_cell hc2)).trans hc2; have hd3 := (hs.cell (p := ⟨b, off + j * 3, none⟩) (lt_of_cell hd0)).trans hd0; clear hs))
                go_wp2
                go_ret
                exact ⟨retB G.out.symm, F3.out⟩
              | true =>
                have Q := Lib.hid hbf
                clear hbf
                have G := Lib.hid (show wRight xs = wFrom (prevW xs (j + 1 + 1)) (xs.drop (j + 1 + 1)) by rw [T3.out, Q.out]; rfl)
                go_wp2_with fail
                go_region_held3 (fun w' => w'.cell? ⟨b, off + j * 3, none⟩ = some (.string z) ∧ w'.cell? ⟨b, off + (j + 1) * 3, none⟩ = some (.string x))
                  (first | exact ⟨by assumption, by assumption⟩ | go_keep)
                  (first
                    | (go_at_call 50; (with_reducible refine (refBefore_any z x _ M2.out M.out.1).mono ?_); rintro e w4 ⟨rfl, hs⟩; rw [Q.out]; have F3 := Lib.hid (F.out.drew.trans (hs.mono F.out.drew.size)); have hc3 := (hs.cell (p := ⟨b, off + (j + 1) * 3, none⟩) (lt_of_cell hc2)).trans hc2; have hd3 := (hs.cell (p := ⟨b, off + j * 3, none⟩) (lt_of_cell hd0)).trans hd0; clear hs))
                go_wp2
                go_roundg (n - (j + 1 + 1))
                case measure => have := A.out.2.2; omega
                case rel => exact ⟨j + 1 + 1, by omega, by go_num, G.out, F3.out⟩
    · obtain rfl : k = n := by have := A.out.2.2; omega
      have G := Lib.hid (show wRight xs = true by rw [A.out.1, List.drop_of_length_le (Nat.le_of_eq LN.out)]; cases prevW xs k <;> rfl)
      have B2 := Lib.hid A.out.2.1
      go_wp2
      go_ret
      exact ⟨retB G.out.symm, B2.out⟩
end Go.Proofs.YtkbfhpgcjljbbaaDoor
