/- Package inner's own functions (layer 8), by contracts: right. -/
import Derived.Test.YtkkmfacngmginaaInFindC
namespace Go.Proofs.Ytkkmfacngmginaa
open Go.RowKit

theorem stillI {P : Program} {id : FuncId} {args : Array Value} {w : World} {E : Ending → Prop} (h : Calls P id args w fun ev w' => E ev ∧ w = w') :
    Calls P id args w fun ev w' => E ev ∧ Below w.heap.size w w' := h.mono fun _ _ ⟨h1, h2⟩ => ⟨h1, h2 ▸ Below.refl _ _⟩
theorem cmpI_lt {a b : List UInt8} (h : bef a b = true) : cmp a b < 0 := (cmp_neg_iff a b).2 h
theorem cmpI_ge {a b : List UInt8} (h : bef a b = false) : 0 ≤ cmp a b := by
  rcases Int.lt_or_le (cmp a b) 0 with h' | h'
  · rw [(cmp_neg_iff _ _).1 h'] at h; cases h
  · exact h'
theorem toList_eqB (a b : ByteArray) : (a.toList == b.toList) = eqB a b := by
  rw [Bool.eq_iff_iff, beq_iff_eq, eqB_iff, ByteArray.toList_eq, ByteArray.toList_eq]
  exact ⟨data_ext, fun h => by rw [h]⟩
/-- the entries from one on, behind the one ahead -/
def fromE (v : IvD) (p : Option ByteArray) (l : List En) : Bool := risE p l && l.all (fun e => inI v e.1)
def prevE (es : List En) (k : Nat) : Option ByteArray := if k = 0 then none else some (es.getD (k - 1) e0).1
def rightI (v : IvD) : Bool := firstB v.ents v.low && fromE v none v.ents
theorem fromE_cons (v : IvD) (p : Option ByteArray) (e : En) (l : List En) : fromE v p (e :: l) = (inI v e.1 && ((match p with | none => true | some q => bef q.data.toList e.1.data.toList) && fromE v (some e.1) l)) := by
  unfold fromE
  rw [show risE p (e :: l) = ((match p with | none => true | some q => bef q.data.toList e.1.data.toList) && risE (some e.1) l) from by cases p <;> rfl, List.all_cons]
  cases inI v e.1 <;> cases (match p with | none => true | some q => bef q.data.toList e.1.data.toList) <;> cases risE (some e.1) l <;> simp
theorem dropE_at {es : List En} {k : Nat} (h : k < es.length) : es.drop k = es.getD k e0 :: es.drop (k + 1) := by
  rw [List.drop_eq_getElem_cons h]
  simp [List.getD, h]
theorem fromE_at (v : IvD) {k : Nat} (h : k < v.ents.length) : fromE v (prevE v.ents k) (v.ents.drop k) = (inI v (v.ents.getD k e0).1 && ((match prevE v.ents k with | none => true | some q => bef q.data.toList (v.ents.getD k e0).1.data.toList) && fromE v (prevE v.ents (k + 1)) (v.ents.drop (k + 1)))) := by
  rw [dropE_at h, fromE_cons]; rfl
set_option maxRecDepth 100000 in
set_option maxHeartbeats 4000000 in
theorem rightI_any (v : IvD) (en : Value) (w : World) (hv : SV lEnt w en v.ents) (hl : v.ents.length ≤ 2000) :
    Calls Try.prog 81 #[ivVal v en] w fun ev w' => ev = .returned (.bool (rightI v)) ∧ Below w.heap.size w w' := by
  have hnot : ∀ (x : Bool) (w : World), (Op.unary .not (.bool x)).run Try.prog w = .ok (.bool (!x)) w := fun _ _ => rfl
  obtain ⟨a, c, rfl, hlc, hcm⟩ := hv.lenform
  obtain ⟨n, hn⟩ : ∃ n, v.ents.length = n := ⟨_, rfl⟩
  have LN := Lib.hid hn
  rw [hn] at hv hlc hl ⊢
  unfold maxLen at hcm
  have hs := alloc_below0 w (ivObj v (.slice a n c))
  have B := Lib.hid hs
  have V := Lib.hid (VB.new v (.slice a n c) w)
  have E := Lib.hid (hv.below hs)
  unfold ivObj at B V E
  clear hv hs
  cases hes : v.ents with
  | nil =>
    have hn0 : n = 0 := by rw [← hn, hes]; rfl
    have R := Lib.hid (show rightI v = false by unfold rightI; rw [hes]; rfl)
    clear hes hn
    subst hn0
    have v_4 := V.out.c4
    unfold ivVal
    go_enter Try.func81, Try.ntmps81
    go_wp2
    go_quiet (fail)
    go_wp2
    go_ret
    exact ⟨retB R.out.symm, below_drewN B.out _⟩
  | cons x l =>
    have HE := Lib.hid hes
    have hnp : 0 < n := by rw [← hn, hes]; simp
    obtain ⟨b, off, ha⟩ := E.out.addr (by rw [hes]; simp)
    subst ha
    obtain ⟨kx, px⟩ := x
    have hx : v.ents[0]? = some (kx, px) := by rw [hes]; rfl
    have x0 := E.out.cellAt (j := 0) hx rfl
    simp only [lEnt, Nat.zero_mul, Nat.add_zero] at x0
    have v_0 := V.out.c0
    have v_4 := V.out.c4
    clear hes hn hx
    have g0 : ((n : Int) == 0) = false := by rw [beq_eq_false_iff_ne]; omega
    unfold ivVal
    cases hf : eqB kx v.low with
    | false =>
      have R := Lib.hid (show rightI v = false by unfold rightI; rw [HE.out]; show (eqB kx v.low && _) = false; rw [hf]; rfl)
      have e0 : (kx.toList == v.low.toList) = false := by rw [toList_eqB]; exact hf
      have e1 : (kx.toList != v.low.toList) = true := by rw [bne, e0]; rfl
      clear hf
      go_enter Try.func81, Try.ntmps81
      go_wp2
      go_quiet (fail)
      go_wp2
      go_ret
      exact ⟨retB R.out.symm, below_drewN B.out _⟩
    | true =>
      have R := Lib.hid (show rightI v = fromE v (prevE v.ents 0) (v.ents.drop 0) by unfold rightI; rw [List.drop_zero, show firstB v.ents v.low = true by rw [HE.out]; exact hf]; rfl)
      have e0 : (kx.toList == v.low.toList) = true := by rw [toList_eqB]; exact hf
      have e1 : (kx.toList != v.low.toList) = false := by rw [bne, e0]; rfl
      clear hf
      go_enter Try.func81, Try.ntmps81
      go_wp2
      go_quiet (fail)
      have BN := Lib.hid (below_drewN (Below.refl (w.alloc (.cells #[.string v.low, .string v.high, .bool v.unb, .int .i64 v.right, .slice (some ⟨b, off, none⟩) n c, .bool v.held, .int .i64 v.hp, .int .i64 v.hl, .string v.hk] 29)).heap.size (w.alloc (.cells #[.string v.low, .string v.high, .bool v.unb, .int .i64 v.right, .slice (some ⟨b, off, none⟩) n c, .bool v.held, .int .i64 v.hp, .int .i64 v.hl, .string v.hk] 29))) nq)
      have B1 := Lib.hid (B.out.trans (BN.out.mono B.out.size))
      have V1 := Lib.hid (V.out.below BN.out)
      have E1 := Lib.hid (E.out.below BN.out)
      generalize hW : World.drewN _ _ = W at *
      clear hW BN B V E v_0 v_4 x0 e0 e1 g0 HE
      have v_4 := V1.out.c4
      go_wp2
      go_loopg [22] n (fun m vi wr => ∃ k : Nat, k + m = n ∧ vi = .int .i64 k ∧ rightI v = fromE v (prevE v.ents k) (v.ents.drop k) ∧ Below W.heap.size W wr)
      case atStart => exact ⟨0, by omega, rfl, R.out, Below.refl _ _⟩
      case round =>
        obtain ⟨k, hk, rfl, hf, hB⟩ := hrel
        have A := Lib.hid (show rightI v = fromE v (prevE v.ents k) (v.ents.drop k) ∧ Below W.heap.size W wr ∧ k + gk = n from ⟨hf, hB, hk⟩)
        clear hf hB v_4
        by_cases hlt : k < n
        · have T := Lib.hid (fromE_at v (k := k) (by rw [LN.out]; exact hlt))
          have hx := mem_at (es := v.ents) (i := k) (by rw [LN.out]; exact hlt)
          have x0 := cell_step (E1.out.cellAt (j := 0) hx rfl) A.out.2.1
          have x1 := cell_step (E1.out.cellAt (j := 1) hx rfl) A.out.2.1
          simp only [lEnt, Nat.add_zero] at x0 x1
          obtain ⟨⟨x, y⟩, hxy⟩ : ∃ e, v.ents.getD k e0 = e := ⟨_, rfl⟩
          rw [hxy] at x0 x1 T
          simp only at x0 x1
          clear hx hxy
          have hs := alloc_below0 wr (entObj (x, y))
          have B2 := Lib.hid (A.out.2.1.trans (hs.mono A.out.2.1.size))
          have X2 := Lib.hid (EB.new (x, y) wr)
          have V2 := Lib.hid (V1.out.below B2.out)
          have v_0 := V2.out.c0
          have v_1 := V2.out.c1
          have v_2 := V2.out.c2
          have v_3 := V2.out.c3
          have v_4 := V2.out.c4
          have v_5 := V2.out.c5
          have v_6 := V2.out.c6
          have v_7 := V2.out.c7
          have v_8 := V2.out.c8
          have q0 := X2.out.c0
          clear hs
          unfold entObj at B2 X2 V2 v_0 v_1 v_2 v_3 v_4 v_5 v_6 v_7 v_8 q0
          have hin : ∀ w, Calls Try.prog 51 #[.agg #[.string v.low, .string v.high, .bool v.unb, .int .i64 v.right, .slice (some ⟨b, off, none⟩) n c, .bool v.held, .int .i64 v.hp, .int .i64 v.hl, .string v.hk], .string x] w fun ev w' => ev = .returned (.bool (inI v x)) ∧ Below w.heap.size w w' := fun w => insideI_any v _ x w
          go_wp2_with fail
          refine (hin _).mono ?_
          rintro ev w3 ⟨rfl, hs⟩
          have B3 := Lib.hid (B2.out.trans (hs.mono B2.out.size))
          have X3 := Lib.hid (X2.out.below hs)
          have V3 := Lib.hid (V2.out.below hs)
          clear hs v_0 v_1 v_2 v_3 v_4 v_5 v_6 v_7 v_8 q0 B2 X2 V2 x0 x1
          cases hi : inI v x with
          | false =>
            have G := Lib.hid (show rightI v = false by rw [A.out.1, T.out, hi]; rfl)
            clear hi
            go_wp2
            go_ret
            exact ⟨retB G.out.symm, B1.out.trans (B3.out.mono B1.out.size)⟩
          | true =>
            have H := Lib.hid (show rightI v = ((match prevE v.ents k with | none => true | some q => bef q.data.toList x.data.toList) && fromE v (prevE v.ents (k + 1)) (v.ents.drop (k + 1))) by rw [A.out.1, T.out, hi]; rfl)
            clear hi
            cases k with
            | zero =>
              have G := Lib.hid (show rightI v = fromE v (prevE v.ents (0 + 1)) (v.ents.drop (0 + 1)) by rw [H.out]; rfl)
              go_wp2
              go_quiet (fail)
              go_wp2
              go_roundg (n - (0 + 1))
              case measure => have := A.out.2.2; omega
              case rel => exact ⟨0 + 1, by omega, by go_num, G.out, below_drewN B3.out _⟩
            | succ j =>
              have hz := mem_at (es := v.ents) (i := j) (by rw [LN.out]; omega)
              have z0 := cell_step (E1.out.cellAt (j := 0) hz rfl) B3.out
              simp only [lEnt, Nat.add_zero] at z0
              have T2 := Lib.hid (show rightI v = (bef (v.ents.getD j e0).1.data.toList x.data.toList && fromE v (prevE v.ents (j + 1 + 1)) (v.ents.drop (j + 1 + 1))) from H.out)
              obtain ⟨z, hzz⟩ : ∃ z, (v.ents.getD j e0).1 = z := ⟨_, rfl⟩
              rw [hzz] at z0 T2
              clear hz hzz H T
              have i3 : (0 : Int) ≤ (j : Int) := by omega
              have i4 : (j : Int) < (n : Int) := by omega
              have i5 : IntKind.i64.wrap (j : Int) = (j : Int) := Go.IntWalk.i64_in _ (by omega)
              have e1 : (((j + 1 : Nat) : Int)) = (j : Int) + 1 := rfl
              rw [e1]
              clear e1
              have gpos : decide ((0 : Int) < (j : Int) + 1) = true := decide_eq_true (by omega)
              have q0 := X3.out.c0
              have v_4 := V3.out.c4
              simp only at q0
              obtain ⟨c2, hcz⟩ : ∃ c, cmp z.data.toList x.data.toList = c := ⟨_, rfl⟩
              have Z := Lib.hid hcz
              cases hbf : bef z.data.toList x.data.toList with
              | false =>
                have hn := cmpI_ge hbf
                rw [hcz] at hn
                have G := Lib.hid (show rightI v = false by rw [T2.out, hbf]; rfl)
                clear hbf hcz
                go_wp2_with fail
                go_region_held3 (fun w' => w'.cell? ⟨b, off + j * 2, none⟩ = some (.string z) ∧ w'.cell? ⟨wr.heap.size, 0, none⟩ = some (.string x) ∧ w'.cell? ⟨w.heap.size, 4, none⟩ = some (.slice (some ⟨b, off, none⟩) n c))
                  (first | exact ⟨by assumption, by assumption, by assumption⟩ | go_keep)
                  (first
                    | (go_at_call 90; (with_reducible refine (stillI (compare_any z x _)).mono ?_); rintro e w4 ⟨rfl, hs⟩; rw [Z.out]; have F4 := Lib.hid (B3.out.drew.trans (hs.mono B3.out.drew.size)); have hc3 := cell_step (w := w3.drew) q0 hs; have hd3 := cell_step (w := w3.drew) z0 hs; have he3 := cell_step (w := w3.drew) v_4 hs; clear hs))
                go_wp2
                go_ret
                exact ⟨retB G.out.symm, B1.out.trans (F4.out.mono B1.out.size)⟩
              | true =>
                have hn := cmpI_lt hbf
                rw [hcz] at hn
                have G := Lib.hid (show rightI v = fromE v (prevE v.ents (j + 1 + 1)) (v.ents.drop (j + 1 + 1)) by rw [T2.out, hbf]; rfl)
                clear hbf hcz
                go_wp2_with fail
                go_region_held3 (fun w' => w'.cell? ⟨b, off + j * 2, none⟩ = some (.string z) ∧ w'.cell? ⟨wr.heap.size, 0, none⟩ = some (.string x) ∧ w'.cell? ⟨w.heap.size, 4, none⟩ = some (.slice (some ⟨b, off, none⟩) n c))
                  (first | exact ⟨by assumption, by assumption, by assumption⟩ | go_keep)
                  (first
                    | (go_at_call 90; (with_reducible refine (stillI (compare_any z x _)).mono ?_); rintro e w4 ⟨rfl, hs⟩; rw [Z.out]; have F4 := Lib.hid (B3.out.drew.trans (hs.mono B3.out.drew.size)); have hc3 := cell_step (w := w3.drew) q0 hs; have hd3 := cell_step (w := w3.drew) z0 hs; have he3 := cell_step (w := w3.drew) v_4 hs; clear hs))
                go_wp2
                go_roundg (n - (j + 1 + 1))
                case measure => have := A.out.2.2; omega
                case rel => exact ⟨j + 1 + 1, by omega, by go_num, G.out, F4.out⟩
        · have G := Lib.hid (show rightI v = true by rw [A.out.1, List.drop_of_length_le (by rw [LN.out]; omega)]; rfl)
          go_wp2
          go_ret
          exact ⟨retB G.out.symm, B1.out.trans (A.out.2.1.mono B1.out.size)⟩
end Go.Proofs.Ytkkmfacngmginaa
