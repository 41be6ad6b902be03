/- Package commits' Right (and a write's row), by contracts (layer 16). -/
import Derived.Test.YtkbfhpgcjljbbaaDoorRwFind
import Derived.Test.YtkbfhpgcjljbbaaDoorRwSB
import Derived.Test.YtkbfhpgcjljbbaaDoorCmInv
namespace Go.Proofs.YtkbfhpgcjljbbaaDoor
open Go.RowKit

theorem stillR {P : Program} {id : FuncId} {args : Array Value} {w : World} {E : Ending → Prop} (h : Calls P id args w fun ev w' => E ev ∧ w = w') :
    Calls P id args w fun ev w' => E ev ∧ Below w.heap.size w w' := h.mono fun _ _ ⟨h1, h2⟩ => ⟨h1, h2 ▸ Below.refl _ _⟩
set_option maxRecDepth 100000 in
set_option maxHeartbeats 4000000 in
theorem rowsRight_any (v : Value) (rs : List Rw) (w : World) (hv : RowsV w v rs) :
    Calls Tryd.prog 48 #[v] w fun ev w' => ev = .returned (.bool (rightB rs)) ∧ Below w.heap.size w w' := by
  have hnot : ∀ (x : Bool) (w : World), (Op.unary .not (.bool x)).run Tryd.prog w = .ok (.bool (!x)) w := fun _ _ => rfl
  have V : Aside (RowsV w v rs) := hv
  rcases hv.form with ⟨rfl, rfl⟩ | ⟨b, off, cap, rfl, hlc, hcm, hc⟩
  · clear hv
    go_enter Tryd.func48, Tryd.ntmps48
    go_wp2
    refine wp_loop_rounds 1 ?_
    rw [rounds_succ]
    go_wp2
    go_ret
    exact ⟨rfl, Below.refl _ _⟩
  · have C : Aside (∀ i, i < rs.length → w.cell? ⟨b, off + i * 2, none⟩ = some (.string (rs.getD i r0).1) ∧ w.cell? ⟨b, off + i * 2 + 1, none⟩ = some (.string (rs.getD i r0).2)) := hc
    unfold maxLen at hcm
    clear hv hc
    go_enter Tryd.func48, Tryd.ntmps48
    go_wp2
    go_loopg [7] rs.length (fun n i wr => ∃ k : Nat, k + n = rs.length ∧ i = .int .i64 k ∧ rightB rs = rightFrom (prevR rs k) (rs.drop k) ∧ Below w.heap.size w wr)
    case atStart => exact ⟨0, by omega, rfl, by simp [rightB, prevR], Below.refl _ _⟩
    case round =>
      obtain ⟨k, hk, rfl, hf, hB⟩ := hrel
      have A : Aside (rightB rs = rightFrom (prevR rs k) (rs.drop k) ∧ Below w.heap.size w wr ∧ k + gk = rs.length) := ⟨hf, hB, hk⟩
      clear hf hB
      by_cases hlt : k < rs.length
      · have hc0 : wr.cell? ⟨b, off + k * 2, none⟩ = some (.string (rs.getD k r0).1) := (A.out.2.1.cell (p := ⟨b, off + k * 2, none⟩) (lt_of_cell (C.out k hlt).1)).trans (C.out k hlt).1
        have hc1 : wr.cell? ⟨b, off + k * 2 + 1, none⟩ = some (.string (rs.getD k r0).2) := (A.out.2.1.cell (p := ⟨b, off + k * 2 + 1, none⟩) (lt_of_cell (C.out k hlt).2)).trans (C.out k hlt).2
        have T : Aside (rightFrom (prevR rs k) (rs.drop k) = (fitB (rs.getD k r0) && (match prevR rs k with | none => true | some q => bef q.data.toList (rs.getD k r0).1.data.toList) && rightFrom (prevR rs (k + 1)) (rs.drop (k + 1)))) := by
          show _ = _; rw [drop_at hlt]; rfl
        have hM : (rs.getD k r0).1.size ≤ maxLen ∧ (rs.getD k r0).2.size ≤ maxLen := V.out.small.at k
        obtain ⟨⟨x, y⟩, hxy⟩ : ∃ r, rs.getD k r0 = r := ⟨_, rfl⟩
        rw [hxy] at hc0 hc1 hM T
        clear hxy
        simp only at hc0 hc1 hM
        have M := Lib.hid hM
        have hy := hM.2
        unfold maxLen at hy
        clear hM
        have BA := Lib.hid (A.out.2.1.trans ((alloc_below0 wr (.cells #[.string x, .string y] 90)).mono A.out.2.1.size))
        cases hr : rgt x.size with
        | false =>
          have R := Lib.hid hr
          have G : Aside (rightB rs = false) := by show _ = _; rw [A.out.1, T.out]; unfold fitB; rw [hr]; rfl
          clear hr
          go_wp2_with fail
          refine (right_any x _ M.out.1).mono ?_
          rintro ev w2 ⟨rfl, rfl⟩
          rw [R.out]
          go_wp2
          go_ret
          exact ⟨retB G.out.symm, BA.out⟩
        | true =>
          have R := Lib.hid hr
          have D : Aside (fitB (x, y) = decide (y.size ≤ 16)) := by show _ = _; unfold fitB; rw [R.out]; rfl
          clear hr
          by_cases h16 : y.size ≤ 16
          · have H : Aside (fitB (x, y) = true) := by show _ = _; rw [D.out]; exact decide_eq_true h16
            have P0 := Lib.hid (PB.new x y wr 90)
            cases k with
            | zero =>
              simp only [Nat.zero_mul, Nat.add_zero] at hc0 hc1
              have G : Aside (rightB rs = rightFrom (prevR rs (0 + 1)) (rs.drop (0 + 1))) := by show _ = _; rw [A.out.1, T.out, H.out]; rfl
              go_wp2_with fail
              refine (stillR (right_any x _ M.out.1)).mono ?_
              rintro ev w2 ⟨rfl, hs⟩
              rw [R.out]
              have F : Aside (Below w.heap.size w w2) := BA.out.trans (hs.mono BA.out.size)
              have q0 := (P0.out.step hs).c0
              have q1 := (P0.out.step hs).c1
              clear hs hc0 hc1
              go_wp2_with fail
              go_quiet (fail)
              go_wp2
              go_roundg (rs.length - (0 + 1))
              case measure => have := A.out.2.2; omega
              case rel => exact ⟨0 + 1, by omega, by go_num, G.out, below_drewN F.out _⟩
            | succ j =>
              have hd0 : wr.cell? ⟨b, off + j * 2, none⟩ = some (.string (rs.getD j r0).1) := (A.out.2.1.cell (p := ⟨b, off + j * 2, none⟩) (lt_of_cell (C.out j (by omega)).1)).trans (C.out j (by omega)).1
              have T2 : Aside (rightB rs = (bef (rs.getD j r0).1.data.toList x.data.toList && rightFrom (prevR rs (j + 1 + 1)) (rs.drop (j + 1 + 1)))) := by
                show _ = _; rw [A.out.1, T.out, H.out]; rfl
              have i1 : (0 : Int) ≤ (j : Int) + 1 := by omega
              have i2 : (j : Int) + 1 < (rs.length : Int) := by omega
              have i3 : (0 : Int) ≤ (j : Int) := by omega
              have i4 : (j : Int) < (rs.length : Int) := by omega
              have i5 : IntKind.i64.wrap (j : Int) = (j : Int) := Go.IntWalk.i64_in _ (by omega)
              generalize (rs.getD j r0).1 = z at *
              have e1 : (((j + 1 : Nat) : Int)) = (j : Int) + 1 := rfl
              rw [e1]
              clear e1
              have hd1 := Lib.hid (hd0)
              go_wp2_with fail
              refine (stillR (right_any x _ M.out.1)).mono ?_
              rintro ev w2 ⟨rfl, hs⟩
              rw [R.out]
              have F : Aside (Below w.heap.size w w2) := BA.out.trans (hs.mono BA.out.size)
              have q0 := (P0.out.step hs).c0
              have q1 := (P0.out.step hs).c1
              have hd2 := cell_step (cell_step hd1.out (alloc_below0 wr (.cells #[.string x, .string y] 90))) hs
              clear hs hc0 hc1 hd0
              have gpos : decide ((0 : Int) < (j : Int) + 1) = true := decide_eq_true (by omega)
              obtain ⟨c, hcz⟩ : ∃ c, cmp z.data.toList x.data.toList = c := ⟨_, rfl⟩
              have Z := Lib.hid hcz
              cases hbf : bef z.data.toList x.data.toList with
              | false =>
                have hn := cmp_ge hbf
                rw [hcz] at hn
                have G : Aside (rightB rs = false) := by show _ = _; rw [T2.out, hbf]; rfl
                clear hbf hcz
                go_wp2_with fail
                go_region_held3 (fun w' => w'.cell? ⟨b, off + j * 2, none⟩ = some (.string z) ∧ w'.cell? ⟨wr.heap.size, 0, none⟩ = some (.string x))
                  (first | exact ⟨by assumption, by assumption⟩ | go_keep)
                  (first
                    | (go_at_call 56; (with_reducible refine (stillR (compare_any z x _)).mono ?_); rintro e w3 ⟨rfl, hs⟩; rw [Z.out]; have F3 : Aside (Below w.heap.size w w3) := F.out.drew.trans (hs.mono F.out.drew.size); have hc3 := cell_step (w := w2.drew) q0 hs; have hd3 := cell_step (w := w2.drew) hd2 hs; clear hs))
                go_wp2
                go_ret
                exact ⟨retB G.out.symm, F3.out⟩
              | true =>
                have hn := cmp_lt hbf
                rw [hcz] at hn
                have G : Aside (rightB rs = rightFrom (prevR rs (j + 1 + 1)) (rs.drop (j + 1 + 1))) := by show _ = _; rw [T2.out, hbf]; rfl
                clear hbf hcz
                go_wp2_with fail
                go_region_held3 (fun w' => w'.cell? ⟨b, off + j * 2, none⟩ = some (.string z) ∧ w'.cell? ⟨wr.heap.size, 0, none⟩ = some (.string x))
                  (first | exact ⟨by assumption, by assumption⟩ | go_keep)
                  (first
                    | (go_at_call 56; (with_reducible refine (stillR (compare_any z x _)).mono ?_); rintro e w3 ⟨rfl, hs⟩; rw [Z.out]; have F3 : Aside (Below w.heap.size w w3) := F.out.drew.trans (hs.mono F.out.drew.size); have hc3 := cell_step (w := w2.drew) q0 hs; have hd3 := cell_step (w := w2.drew) hd2 hs; clear hs))
                go_wp2
                go_roundg (rs.length - (j + 1 + 1))
                case measure => have := A.out.2.2; omega
                case rel => exact ⟨j + 1 + 1, by omega, by go_num, G.out, F3.out⟩
          · have G : Aside (rightB rs = false) := by show _ = _; rw [A.out.1, T.out, D.out, decide_eq_false h16]; rfl
            go_wp2_with fail
            refine (right_any x _ M.out.1).mono ?_
            rintro ev w2 ⟨rfl, rfl⟩
            rw [R.out]
            go_wp2
            go_ret
            exact ⟨retB G.out.symm, BA.out⟩
      · have e : k = rs.length := by omega
        have G : Aside (rightB rs = true) := by
          show _ = _; rw [A.out.1, e, List.drop_of_length_le (Nat.le_refl _)]; unfold rightFrom; rfl
        clear e
        go_wp2
        go_ret
        exact ⟨retB G.out.symm, A.out.2.1⟩

set_option linter.unusedVariables false
set_option linter.unusedSimpArgs false
open Go.RowKit

set_option maxRecDepth 100000 in
set_option maxHeartbeats 4000000 in
theorem row16 (x y : ByteArray) (g : Bool) (w : World) :
    Calls Tryd.prog 47 #[.agg #[.string x, .string y, .bool g]] w fun ev w' => ev = .returned (.agg #[.string x, .string y]) ∧ Below w.heap.size w w' := by
  have b1 := alloc_below0 w (.cells #[.string x, .string y, .bool g] 49)
  have B1 := Lib.hid (b1.trans ((alloc_below0 (w.alloc (.cells #[.string x, .string y, .bool g] 49)) (.cells #[.string x, .string y] 90)).mono b1.size))
  have k2 := blk_new (w.alloc (.cells #[.string x, .string y, .bool g] 49)) (.cells #[.string x, .string y] 90)
  rw [show (w.alloc (.cells #[.string x, .string y, .bool g] 49)).heap.size = w.heap.size + 1 by simp] at k2
  have K2 := Lib.hid (show World.rangeAt _ (w.heap.size + 1) 0 [.string x, .string y] from fun j u hj => by rw [Nat.zero_add, blk_cell k2]; simpa using hj)
  clear b1 k2
  go_enter Tryd.func47, Tryd.ntmps47
  go_wp2
  exact bodyPost_ret (v := .agg #[.string x, .string y]) (results_cell1 rfl _ _ (w.heap.size + 1) [.string x, .string y] _ rfl K2.out Tryd.underlying90 rfl (by kernel_rfl)) rfl ⟨rfl, B1.out⟩
def rowW (x : Wr) : Rw := (x.1, x.2.1)
/-- a deletion has no value -/
def goneOk (x : Wr) : Bool := !x.2.2 || eqB x.2.1 ⟨#[]⟩
theorem wFrom_rows : ∀ (p : Option ByteArray) (xs : List Wr), wFrom p xs = (xs.all goneOk && rightFrom p (xs.map rowW))
  | _, [] => rfl
  | p, x :: xs => by
    unfold wFrom
    rw [wFrom_rows (some x.1) xs]
    simp only [List.all_cons, List.map_cons, rightFrom]
    unfold wFit goneOk rowW
    simp only
    cases p with
    | none =>
      simp only
      generalize fitB (x.1, x.2.1) = a1
      generalize (!x.2.2 || eqB x.2.1 ⟨#[]⟩) = a2
      generalize (xs.all fun x => !x.2.2 || eqB x.2.1 ⟨#[]⟩) = a4
      cases a1 <;> cases a2 <;> cases a4 <;> simp
    | some q =>
      simp only
      generalize fitB (x.1, x.2.1) = a1
      generalize (!x.2.2 || eqB x.2.1 ⟨#[]⟩) = a2
      generalize bef q.data.toList x.1.data.toList = a3
      generalize (xs.all fun x => !x.2.2 || eqB x.2.1 ⟨#[]⟩) = a4
      cases a1 <;> cases a2 <;> cases a3 <;> cases a4 <;> simp
theorem wRight_rows (xs : List Wr) : wRight xs = (xs.all goneOk && rightB (xs.map rowW)) := wFrom_rows none xs
theorem goneOk_bad {xs : List Wr} {k : Nat} {x : Wr} (h : xs[k]? = some x) (hx : goneOk x = false) : wRight xs = false := by
  rw [wRight_rows, Bool.and_eq_false_iff]
  left
  rw [List.all_eq_false]
  exact ⟨x, List.mem_of_getElem? h, by rw [hx]; decide⟩
theorem small_rows {xs : List Wr} (h : SmallW xs) : Small (xs.map rowW) := fun r hr => by
  obtain ⟨x, hx, rfl⟩ := List.mem_map.1 hr
  exact h x hx
set_option maxRecDepth 100000 in
set_option maxHeartbeats 4000000 in
theorem right16 (v : Value) (xs : List Wr) (w : World) (hv : WrV lPw w v xs) (hl : xs.length ≤ 1000) :
    Calls Tryd.prog 39 #[v] w fun ev w' => ev = .returned (.bool (wRight xs)) ∧ Below w.heap.size w w' := by
  obtain ⟨a, cap, rfl, hlc, hcm⟩ := hv.1.lenform
  obtain ⟨n, hn⟩ : ∃ n, xs.length = n := ⟨_, rfl⟩
  rw [hn] at hv hlc hl ⊢
  have V := Lib.hid hv
  have LN := Lib.hid hn
  unfold maxLen at hcm
  clear hv hn
  go_enter Tryd.func39, Tryd.ntmps39
  go_wp2
  go_loopg [3, 8] n (fun c s i wr => ∃ k : Nat, k + c = n ∧ i = .int .i64 k ∧ OwnR w.heap.size wr s ((xs.take k).map rowW) ∧ (xs.take k).all goneOk = true ∧ Below w.heap.size w wr)
  case atStart => exact ⟨0, by omega, rfl, OwnR.nil _ _, rfl, Below.refl _ _⟩
  case round =>
    obtain ⟨k, hk, rfl, hO, hG, hB⟩ := hrel
    have A := Lib.hid (show Below w.heap.size w wr ∧ k + gk = n ∧ (xs.take k).all goneOk = true from ⟨hB, hk, hG⟩)
    have O := Lib.hid hO
    clear hB hO hG
    by_cases hlt : k < n
    · obtain ⟨⟨x, y, g⟩, hx⟩ : ∃ x, xs[k]? = some x := ⟨_, List.getElem?_eq_getElem (by rw [LN.out]; exact hlt)⟩
      obtain ⟨b, off, ha⟩ := V.out.1.addr (by rw [LN.out]; omega)
      subst ha
      obtain ⟨x0, x1, x2⟩ := (V.out.below A.out.1).cellsP hx
      have T := Lib.hid (wtake_at1 hx)
      have HX := Lib.hid hx
      have M := Lib.hid (V.out.2.at hx)
      simp only at x0 x1 x2
      have j3 : (0 : Int) ≤ (k : Int) := by omega
      have j4 : (k : Int) < (n : Int) := by omega
      have ba := alloc_below0 wr (.cells #[.string x, .string y, .bool g] 49)
      have BA := Lib.hid (A.out.1.trans (ba.mono A.out.1.size))
      have OA := Lib.hid (OwnR.below (w := wr) O.out ba)
      have LT := Lib.hid (show ((xs.take k).map rowW).length + 1 ≤ 100000 by rw [List.length_map, List.length_take]; omega)
      clear hx ba
      by_cases hbad : g = true ∧ ¬ y = ⟨#[]⟩
      · obtain ⟨rfl, hy⟩ := hbad
        have G := Lib.hid (show wRight xs = false from goneOk_bad HX.out (by
          unfold goneOk
          have : eqB y ⟨#[]⟩ = false := by
            cases h : eqB y ⟨#[]⟩ with
            | true => exact absurd ((eqB_iff _ _).1 h) hy
            | false => rfl
          simp [this]))
        have hy2 : (y.toList == []) = false := by
          rw [beq_eq_false_iff_ne]
          intro e
          obtain ⟨⟨l⟩⟩ := y
          rw [ByteArray.toList_eq] at e
          simp at e
          exact hy (by rw [e])
        go_wp2
        go_ret
        exact ⟨retB G.out.symm, BA.out⟩
      · have GK := Lib.hid (show (xs.take (k + 1)).all goneOk = true by
          rw [T.out, List.all_append, A.out.2.2]
          unfold goneOk
          cases g with
          | false => simp
          | true => have : y = ⟨#[]⟩ := Classical.not_not.1 (fun h => hbad ⟨rfl, h⟩); rw [this]; simp [eqB_self])
        have hcase : g = false ∨ (g = true ∧ y = ⟨#[]⟩) := by
          cases g with
          | false => exact .inl rfl
          | true => exact .inr ⟨rfl, Classical.not_not.1 (fun h => hbad ⟨rfl, h⟩)⟩
        clear hbad
        rcases hcase with rfl | ⟨rfl, rfl⟩
        · go_wp2_with fail
          refine (row16 _ _ _ _).mono ?_
          rintro ev w2 ⟨rfl, hs⟩
          have B2 := Lib.hid (BA.out.trans (hs.mono BA.out.size))
          have b3 := alloc_below0 w2 (.cells #[.string x, .string y] 90)
          have B3 := Lib.hid (B2.out.trans (b3.mono B2.out.size))
          have O3 := Lib.hid ((OA.out.below hs).below b3)
          have R3 := Lib.hid (RowsV.one w2 w2.heap.size rfl x y M.out.1 M.out.2)
          clear hs b3
          go_wp2_with (at_builtin; go_must (refine wpList_app rfl (.tmp 19) (.tmp 22) rfl w.heap.size rfl rfl O3.out R3.out LT.out B3.out.size ?_; intro v4 w4 ho4 hg4))
          have F := Lib.hid (show OwnR w.heap.size w4 v4 ((xs.take (k + 1)).map rowW) ∧ Below w.heap.size w w4 from ⟨by rw [T.out, List.map_append]; exact ho4, B3.out.trans ((Kept.of_grown hg4).below (fun j hj => (World.ownsRow.lt O3.out j hj.symm).1) B3.out.size)⟩)
          clear ho4 hg4
          go_wp2
          go_roundg (n - (k + 1))
          case measure => have := A.out.2.1; omega
          case rel => exact ⟨k + 1, by omega, by go_num, F.out.1, GK.out, F.out.2⟩
        · go_wp2_with fail
          refine (row16 _ _ _ _).mono ?_
          rintro ev w2 ⟨rfl, hs⟩
          have B2 := Lib.hid (BA.out.trans (hs.mono BA.out.size))
          have b3 := alloc_below0 w2 (.cells #[.string x, .string ⟨#[]⟩] 90)
          have B3 := Lib.hid (B2.out.trans (b3.mono B2.out.size))
          have O3 := Lib.hid ((OA.out.below hs).below b3)
          have R3 := Lib.hid (RowsV.one w2 w2.heap.size rfl x ⟨#[]⟩ M.out.1 M.out.2)
          clear hs b3
          go_wp2_with (at_builtin; go_must (refine wpList_app rfl (.tmp 19) (.tmp 22) rfl w.heap.size rfl rfl O3.out R3.out LT.out B3.out.size ?_; intro v4 w4 ho4 hg4))
          have F := Lib.hid (show OwnR w.heap.size w4 v4 ((xs.take (k + 1)).map rowW) ∧ Below w.heap.size w w4 from ⟨by rw [T.out, List.map_append]; exact ho4, B3.out.trans ((Kept.of_grown hg4).below (fun j hj => (World.ownsRow.lt O3.out j hj.symm).1) B3.out.size)⟩)
          clear ho4 hg4
          go_wp2
          go_roundg (n - (k + 1))
          case measure => have := A.out.2.1; omega
          case rel => exact ⟨k + 1, by omega, by go_num, F.out.1, GK.out, F.out.2⟩
    · obtain rfl : n = k := by have := A.out.2.1; omega
      have E := Lib.hid (show xs.take n = xs from List.take_of_length_le (Nat.le_of_eq LN.out))
      have hO := O.out
      rw [E.out] at hO
      have RR := Lib.hid (hO.rows (small_rows V.out.2))
      clear hO
      have W := Lib.hid (show wRight xs = rightB (xs.map rowW) by rw [wRight_rows]; have := A.out.2.2; rw [E.out] at this; rw [this]; rfl)
      go_wp2_with fail
      refine (rowsRight_any _ _ _ RR.out).mono ?_
      rintro ev w2 ⟨rfl, hs⟩
      have B2 := Lib.hid (A.out.1.trans (hs.mono A.out.1.size))
      clear hs
      go_wp2
      go_ret
      exact ⟨retB W.out.symm, B2.out⟩
end Go.Proofs.YtkbfhpgcjljbbaaDoor
