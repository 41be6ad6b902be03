/- The walk of the law ArenaClones, out of package arena's contracts. -/
import Derived.Test.YtkokpbkpmhhemaaArMod
namespace Go.Proofs.Ytkokpbkpmhhemaa
open Go.RowKit

def addV (r : Rw) : Rw := (r.1, r.2 ++ ⟨#[120]⟩)
def incP (e : En) : En := (e.1, wrap64 (e.2 + 1))
set_option maxRecDepth 100000 in
set_option maxHeartbeats 4000000 in
theorem lawClones (C : ArC) (s : Sc) (rv en : Value) (rows : List Rw) (ents : List En) (w : World) (hr : SV lRow w rv rows) (he : SV lEnt w en ents) (hsz : ∀ r ∈ rows, r.2.size ≤ 140737488351232) :
    Calls Try.prog 4 #[recVal s rv en] w fun ev w' => ev = .returned (.bool true) ∧ Below w.heap.size w w' := by
  have hnot : ∀ (x : Bool) (w : World), (Op.unary .not (.bool x)).run Try.prog w = .ok (.bool (!x)) w := fun _ _ => rfl
  obtain ⟨ra, rc, rfl, -, -⟩ := hr.lenform
  obtain ⟨ea, ec, rfl, -, -⟩ := he.lenform
  obtain ⟨n, hn⟩ : ∃ n, rows.length = n := ⟨_, rfl⟩
  obtain ⟨m, hm⟩ : ∃ m, ents.length = m := ⟨_, rfl⟩
  have LN := Lib.hid (show rows.length = n ∧ ents.length = m from ⟨hn, hm⟩)
  rw [hn] at hr ⊢
  rw [hm] at he ⊢
  clear hn hm
  have b0 := alloc_below0 w (recObj s (.slice ra n rc) (.slice ea m ec))
  have HR0 := Lib.hid hr
  have HE0 := Lib.hid he
  have D0 := Lib.hid (RB.new s (.slice ra n rc) (.slice ea m ec) w)
  have R0 := Lib.hid (hr.below b0)
  have E0 := Lib.hid (he.below b0)
  have B0 := Lib.hid (b0)
  unfold recObj at D0 R0 E0 B0
  unfold recVal
  clear hr he b0
  go_enter Try.func4, Try.ntmps4
  by_cases h1 : n ≤ 60
  · by_cases h2 : m ≤ 60
    · have K := Lib.hid (show rows.length ≤ 1000 ∧ ents.length ≤ 1000 from ⟨by have := LN.out.1; omega, by have := LN.out.2; omega⟩)
      have d_0 := D0.out.c0
      have d_1 := D0.out.c1
      have d_2 := D0.out.c2
      have d_3 := D0.out.c3
      have d_4 := D0.out.c4
      have d_5 := D0.out.c5
      have d_6 := D0.out.c6
      have d_7 := D0.out.c7
      have d_8 := D0.out.c8
      have d_9 := D0.out.c9
      have d_10 := D0.out.c10
      have d_11 := D0.out.c11
      have d_12 := D0.out.c12
      have d_13 := D0.out.c13
      have d_14 := D0.out.c14
      go_wp2_with fail
      refine (C.clone _ ⟨s, rows, ents⟩ _ ⟨_, _, rfl, R0.out, E0.out⟩ K.out.1 K.out.2).mono ?_
      rintro ev w1 ⟨rv2, en2, rfl, o1, o2, hs⟩
      have D1 := Lib.hid (D0.out.step hs)
      have R1 := Lib.hid (R0.out.below hs)
      have E1 := Lib.hid (E0.out.below hs)
      have B1 := Lib.hid (B0.out.trans (hs.mono B0.out.size))
      clear D0 R0 E0 B0
      have X0 := Lib.hid (o1)
      have Y0 := Lib.hid (o2)
      clear hs o1 o2
      clear d_0 d_1 d_2 d_3 d_4 d_5 d_6 d_7 d_8 d_9 d_10 d_11 d_12 d_13 d_14
      have X1 := Lib.hid (show OwnS lRow (w.heap.size + 1) w1 rv2 rows from X0.out.mono (by simp))
      have Y1 := Lib.hid (show OwnS lEnt (w.heap.size + 1) w1 en2 ents from Y0.out.mono (by simp))
      clear X0 Y0
      obtain ⟨xa, xc, rfl, -, hxm⟩ := X1.out.lenN LN.out.1
      obtain ⟨ya, yc, rfl, -, hym⟩ := Y1.out.lenN LN.out.2
      have XL := Lib.hid X1.out.bounds
      have YL := Lib.hid Y1.out.bounds
      unfold recVal
      unfold maxLen at hxm hym
      have hs := alloc_below0 w1 (recObj s (.slice xa n xc) (.slice ya m yc))
      have D2 := Lib.hid (D1.out.step hs)
      have R2 := Lib.hid (R1.out.below hs)
      have E2 := Lib.hid (E1.out.below hs)
      have B2 := Lib.hid (B1.out.trans (hs.mono B1.out.size))
      have X2 := Lib.hid (X1.out.below hs)
      have Y2 := Lib.hid (Y1.out.below hs)
      clear D1 R1 E1 B1 X1 Y1
      have T0 := Lib.hid (RB.new s (.slice xa n xc) (.slice ya m yc) w1)
      clear hs
      unfold recObj at D2 R2 E2 B2 X2 Y2 T0
      have HW2 := Lib.hid (alloc_below0 w1 (recObj s (.slice xa n xc) (.slice ya m yc))).size
      have t_0 := T0.out.c0
      have t_1 := T0.out.c1
      have t_2 := T0.out.c2
      have t_3 := T0.out.c3
      have t_4 := T0.out.c4
      have t_5 := T0.out.c5
      have t_6 := T0.out.c6
      have t_7 := T0.out.c7
      have t_8 := T0.out.c8
      have t_9 := T0.out.c9
      have t_10 := T0.out.c10
      have t_11 := T0.out.c11
      have t_12 := T0.out.c12
      have t_13 := T0.out.c13
      have t_14 := T0.out.c14
      have d_0 := D2.out.c0
      have d_1 := D2.out.c1
      have d_2 := D2.out.c2
      have d_3 := D2.out.c3
      have d_4 := D2.out.c4
      have d_5 := D2.out.c5
      have d_6 := D2.out.c6
      have d_7 := D2.out.c7
      have d_8 := D2.out.c8
      have d_9 := D2.out.c9
      have d_10 := D2.out.c10
      have d_11 := D2.out.c11
      have d_12 := D2.out.c12
      have d_13 := D2.out.c13
      have d_14 := D2.out.c14
      go_wp2_with fail
      refine (same_rec _ _ ⟨s, rows, ents⟩ _ ⟨_, _, rfl, X2.out.sv, Y2.out.sv⟩ ⟨_, _, rfl, R2.out, E2.out⟩ K.out.1 K.out.2).mono ?_
      rintro ev w2 ⟨rfl, hs⟩
      have D3 := Lib.hid (D2.out.step hs)
      have R3 := Lib.hid (R2.out.below hs)
      have E3 := Lib.hid (E2.out.below hs)
      have B3 := Lib.hid (B2.out.trans (hs.mono B2.out.size))
      have X3 := Lib.hid (X2.out.below hs)
      have Y3 := Lib.hid (Y2.out.below hs)
      have T1 := Lib.hid (T0.out.step hs)
      clear D2 R2 E2 B2 X2 Y2 T0
      clear hs
      clear t_0 t_1 t_2 t_3 t_4 t_5 t_6 t_7 t_8 t_9 t_10 t_11 t_12 t_13 t_14 d_0 d_1 d_2 d_3 d_4 d_5 d_6 d_7 d_8 d_9 d_10 d_11 d_12 d_13 d_14
      have HW3 := Lib.hid (T1.out.c0)
      have t_0 := T1.out.c0
      have t_1 := T1.out.c1
      have t_2 := T1.out.c2
      have t_3 := T1.out.c3
      have t_4 := T1.out.c4
      have t_5 := T1.out.c5
      have t_6 := T1.out.c6
      have t_7 := T1.out.c7
      have t_8 := T1.out.c8
      have t_9 := T1.out.c9
      have t_10 := T1.out.c10
      have t_11 := T1.out.c11
      have t_12 := T1.out.c12
      have t_13 := T1.out.c13
      have t_14 := T1.out.c14
      go_wp2_with fail
      refine (C.clone _ ⟨s, rows, ents⟩ _ ⟨_, _, rfl, X3.out.sv, Y3.out.sv⟩ K.out.1 K.out.2).mono ?_
      rintro ev w3 ⟨rv3, en3, rfl, o1, o2, hs⟩
      have HW5 := Lib.hid hs.size
      have D4 := Lib.hid (D3.out.step hs)
      have R4 := Lib.hid (R3.out.below hs)
      have E4 := Lib.hid (E3.out.below hs)
      have B4 := Lib.hid (B3.out.trans (hs.mono B3.out.size))
      have X4 := Lib.hid (X3.out.below hs)
      have Y4 := Lib.hid (Y3.out.below hs)
      have T2 := Lib.hid (T1.out.step hs)
      clear D3 R3 E3 B3 X3 Y3 T1
      have U0 := Lib.hid (o1)
      have V0 := Lib.hid (o2)
      clear hs o1 o2
      clear t_0 t_1 t_2 t_3 t_4 t_5 t_6 t_7 t_8 t_9 t_10 t_11 t_12 t_13 t_14
      have HW4 := Lib.hid (lt_of_cell T2.out.c0)
      have U0' := Lib.hid (show OwnS lRow _ _ rv3 rows from U0.out)
      have V0' := Lib.hid (show OwnS lEnt _ _ en3 ents from V0.out)
      clear U0 V0
      obtain ⟨ua, uc, rfl, -, -⟩ := U0'.out.lenN LN.out.1
      obtain ⟨va, vc, rfl, -, -⟩ := V0'.out.lenN LN.out.2
      unfold recVal
      have U1 := U0'
      have V1 := V0'
      clear U0' V0'
      have hs := alloc_below0 w3 (recObj s (.slice ua n uc) (.slice va m vc))
      have D5 := Lib.hid (D4.out.step hs)
      have R5 := Lib.hid (R4.out.below hs)
      have E5 := Lib.hid (E4.out.below hs)
      have B5 := Lib.hid (B4.out.trans (hs.mono B4.out.size))
      have X5 := Lib.hid (X4.out.below hs)
      have Y5 := Lib.hid (Y4.out.below hs)
      have T3 := Lib.hid (T2.out.step hs)
      have U2 := Lib.hid (U1.out.below hs)
      have V2 := Lib.hid (V1.out.below hs)
      clear D4 R4 E4 B4 X4 Y4 T2 U1 V1
      have G0 := Lib.hid (RB.new s (.slice ua n uc) (.slice va m vc) w3)
      clear hs
      have NN := Lib.hid (show w1.heap.size < w2.heap.size ∧ w2.heap.size ≤ w3.heap.size from ⟨lt_of_cell HW3.out, HW5.out⟩)
      unfold recObj at D5 R5 E5 B5 X5 Y5 T3 U2 V2 G0
      clear R5 E5
      have t5 := T3.out.c5
      have LK5 := Lib.hid (show rows.length = n from LN.out.1)
      have OE := Lib.hid (X5.out.neB Y5.out (show lRow.ty ≠ lEnt.ty by decide))
      go_wp2
      go_loopg [29] n (fun r i wz => ∃ k : Nat, k + r = n ∧ i = .int .i64 k ∧ OwnS lRow (w.heap.size + 1) wz (.slice xa n xc) (turned addV rows k) ∧ Kept (fun k => (Value.slice xa n xc).ownBlock = some k) (w3.alloc (.cells #[.int .i64 s.kind, .string s.low, .string s.high, .bool s.unb, .int .i64 s.right, (.slice ua n uc), (.slice va m vc), .string s.key, .string s.value, .int .i64 s.page, .int .i64 s.hp, .int .i64 s.hl, .string s.hk, .int .i64 s.ns, .int .i64 s.ng] 36)) wz)
      case atStart => exact ⟨0, by omega, rfl, by rw [turned_zero]; exact X5.out, Kept.refl _ _⟩
      case round =>
        obtain ⟨k, hk, rfl, hO, hK⟩ := hrel
        have A := Lib.hid (show OwnS lRow (w.heap.size + 1) wr (.slice xa n xc) (turned addV rows k) ∧ Kept (fun k => (Value.slice xa n xc).ownBlock = some k) (w3.alloc (.cells #[.int .i64 s.kind, .string s.low, .string s.high, .bool s.unb, .int .i64 s.right, (.slice ua n uc), (.slice va m vc), .string s.key, .string s.value, .int .i64 s.page, .int .i64 s.hp, .int .i64 s.hl, .string s.hk, .int .i64 s.ns, .int .i64 s.ng] 36)) wr ∧ k + gk = n from ⟨hO, hK, hk⟩)
        clear hO hK t5
        have t5 := (T3.out.kept A.out.2.1 (fun h => by have := XL.out _ h; omega)).c5
        by_cases hlt : k < n
        · obtain ⟨g, hxv⟩ := A.out.1.addrN (by omega)
          subst hxv
          obtain ⟨⟨p, q⟩, hx⟩ : ∃ x, rows[k]? = some x := ⟨_, List.getElem?_eq_getElem (by rw [LK5.out]; exact hlt)⟩
          have x1 := A.out.1.sv.cellAt (j := 1) (turned_at addV hx) rfl
          simp only [lRow, Nat.zero_add] at x1
          have z1 := A.out.1.free (k * 2 + 1)
          have S1 := Lib.hid (show OwnS lRow (w.heap.size + 1) (wr.setCell ⟨g, k * 2 + 1, none⟩ (.string (q ++ ⟨#[120]⟩))) (.slice (some ⟨g, 0, none⟩) n xc) (turned addV rows (k + 1)) by rw [turned_set addV hx]; exact A.out.1.set (turned_at addV hx) (j := 1) (by decide) rfl)
          have S2 := Lib.hid (A.out.2.1.setCellB (k * 2 + 1) (.string (q ++ ⟨#[120]⟩)))
          have hq : q.size ≤ 140737488351232 := hsz _ (List.mem_of_getElem? hx)
          clear hx
          have i1 : (0 : Int) ≤ (k : Int) := by omega
          have i2 : (k : Int) < (n : Int) := by omega
          go_wp2
          go_roundg (n - (k + 1))
          case measure => have := A.out.2.2; omega
          case rel => exact ⟨k + 1, by omega, by go_num, S1.out, S2.out⟩
        · have hkn : k = n := by omega
          obtain ⟨wm5, hwm⟩ : ∃ wm, wm = wr := ⟨_, rfl⟩
          subst hwm
          clear t5
          have D6 := Lib.hid (D5.out.kept A.out.2.1 (fun h => by have := XL.out _ h; have := NN.out; omega))
          have B6 := Lib.hid (B5.out.trans (A.out.2.1.below (fun k h => by have := (XL.out k h).1; omega) B5.out.size))
          have Y6 := Lib.hid (Y5.out.kept A.out.2.1 OE.out)
          have T4 := Lib.hid (T3.out.kept A.out.2.1 (fun h => by have := XL.out _ h; have := NN.out; omega))
          have U3 := Lib.hid (U2.out.kept A.out.2.1 (U2.out.out (fun k h => by have := XL.out k h; have := NN.out; omega)))
          have V3 := Lib.hid (V2.out.kept A.out.2.1 (V2.out.out (fun k h => by have := XL.out k h; have := NN.out; omega)))
          have G1 := Lib.hid (G0.out.kept A.out.2.1 (fun h => by have := XL.out _ h; have := NN.out; omega))
          clear D5 B5 X5 Y5 T3 U2 V2 G0
          have t5 := T4.out.c6
          have LK6 := Lib.hid (show ents.length = m from LN.out.2)
          go_wp2
          go_loopg [45] m (fun r i wz => ∃ k : Nat, k + r = m ∧ i = .int .i64 k ∧ OwnS lEnt (w.heap.size + 1) wz (.slice ya m yc) (turned incP ents k) ∧ Kept (fun k => (Value.slice ya m yc).ownBlock = some k) wm5 wz)
          case atStart => exact ⟨0, by omega, rfl, by rw [turned_zero]; exact Y6.out, Kept.refl _ _⟩
          case round =>
            obtain ⟨k, hk, rfl, hO, hK⟩ := hrel
            have A := Lib.hid (show OwnS lEnt (w.heap.size + 1) wr (.slice ya m yc) (turned incP ents k) ∧ Kept (fun k => (Value.slice ya m yc).ownBlock = some k) wm5 wr ∧ k + gk = m from ⟨hO, hK, hk⟩)
            clear hO hK t5
            have t5 := (T4.out.kept A.out.2.1 (fun h => by have := YL.out _ h; omega)).c6
            by_cases hlt : k < m
            · obtain ⟨g, hxv⟩ := A.out.1.addrN (by omega)
              subst hxv
              obtain ⟨⟨p, q⟩, hx⟩ : ∃ x, ents[k]? = some x := ⟨_, List.getElem?_eq_getElem (by rw [LK6.out]; exact hlt)⟩
              have x1 := A.out.1.sv.cellAt (j := 1) (turned_at incP hx) rfl
              simp only [lEnt, Nat.zero_add] at x1
              have z1 := A.out.1.free (k * 2 + 1)
              have S1 := Lib.hid (show OwnS lEnt (w.heap.size + 1) (wr.setCell ⟨g, k * 2 + 1, none⟩ (.int .i64 (wrap64 (q + 1)))) (.slice (some ⟨g, 0, none⟩) m yc) (turned incP ents (k + 1)) by rw [turned_set incP hx]; exact A.out.1.set (turned_at incP hx) (j := 1) (by decide) rfl)
              have S2 := Lib.hid (A.out.2.1.setCellB (k * 2 + 1) (.int .i64 (wrap64 (q + 1))))
              skip
              clear hx
              have i1 : (0 : Int) ≤ (k : Int) := by omega
              have i2 : (k : Int) < (m : Int) := by omega
              go_wp2
              go_roundg (m - (k + 1))
              case measure => have := A.out.2.2; omega
              case rel => exact ⟨k + 1, by omega, by go_num, S1.out, S2.out⟩
            · have hkn : k = m := by omega
              obtain ⟨wm6, hwm⟩ : ∃ wm, wm = wr := ⟨_, rfl⟩
              subst hwm
              clear t5
              have D7 := Lib.hid (D6.out.kept A.out.2.1 (fun h => by have := YL.out _ h; have := NN.out; omega))
              have B7 := Lib.hid (B6.out.trans (A.out.2.1.below (fun k h => by have := (YL.out k h).1; omega) B6.out.size))
              have T5 := Lib.hid (T4.out.kept A.out.2.1 (fun h => by have := YL.out _ h; have := NN.out; omega))
              have U4 := Lib.hid (U3.out.kept A.out.2.1 (U3.out.out (fun k h => by have := YL.out k h; have := NN.out; omega)))
              have V4 := Lib.hid (V3.out.kept A.out.2.1 (V3.out.out (fun k h => by have := YL.out k h; have := NN.out; omega)))
              have G2 := Lib.hid (G1.out.kept A.out.2.1 (fun h => by have := YL.out _ h; have := NN.out; omega))
              clear D6 B6 Y6 T4 U3 V3 G1
              have R9 := Lib.hid (HR0.out.below B7.out)
              have E9 := Lib.hid (HE0.out.below B7.out)
              have g_0 := G2.out.c0
              have g_1 := G2.out.c1
              have g_2 := G2.out.c2
              have g_3 := G2.out.c3
              have g_4 := G2.out.c4
              have g_5 := G2.out.c5
              have g_6 := G2.out.c6
              have g_7 := G2.out.c7
              have g_8 := G2.out.c8
              have g_9 := G2.out.c9
              have g_10 := G2.out.c10
              have g_11 := G2.out.c11
              have g_12 := G2.out.c12
              have g_13 := G2.out.c13
              have g_14 := G2.out.c14
              have d_0 := D7.out.c0
              have d_1 := D7.out.c1
              have d_2 := D7.out.c2
              have d_3 := D7.out.c3
              have d_4 := D7.out.c4
              have d_5 := D7.out.c5
              have d_6 := D7.out.c6
              have d_7 := D7.out.c7
              have d_8 := D7.out.c8
              have d_9 := D7.out.c9
              have d_10 := D7.out.c10
              have d_11 := D7.out.c11
              have d_12 := D7.out.c12
              have d_13 := D7.out.c13
              have d_14 := D7.out.c14
              go_wp2_with fail
              refine (same_rec _ _ ⟨s, rows, ents⟩ _ ⟨_, _, rfl, U4.out.sv, V4.out.sv⟩ ⟨_, _, rfl, R9.out, E9.out⟩ K.out.1 K.out.2).mono ?_
              rintro ev w14 ⟨rfl, hs⟩
              have D8 := Lib.hid (D7.out.step hs)
              have B8 := Lib.hid (B7.out.trans (hs.mono B7.out.size))
              have T6 := Lib.hid (T5.out.step hs)
              have U5 := Lib.hid (U4.out.below hs)
              have V5 := Lib.hid (V4.out.below hs)
              have G3 := Lib.hid (G2.out.step hs)
              have R10 := Lib.hid (R9.out.below hs)
              have E10 := Lib.hid (E9.out.below hs)
              clear D7 B7 T5 U4 V4 G2 R9 E9
              clear hs
              clear g_0 g_1 g_2 g_3 g_4 g_5 g_6 g_7 g_8 g_9 g_10 g_11 g_12 g_13 g_14 d_0 d_1 d_2 d_3 d_4 d_5 d_6 d_7 d_8 d_9 d_10 d_11 d_12 d_13 d_14
              go_wp2_with fail
              refine (awakeA C _).mono ?_
              rintro ev w15 ⟨rfl, hs⟩
              have D9 := Lib.hid (D8.out.step hs)
              have B9 := Lib.hid (B8.out.trans (hs.mono B8.out.size))
              have T7 := Lib.hid (T6.out.step hs)
              have U6 := Lib.hid (U5.out.below hs)
              have V6 := Lib.hid (V5.out.below hs)
              have G4 := Lib.hid (G3.out.step hs)
              have R11 := Lib.hid (R10.out.below hs)
              have E11 := Lib.hid (E10.out.below hs)
              clear D8 B8 T6 U5 V5 G3 R10 E10
              clear hs
              go_wp2
              go_ret
              exact ⟨rfl, B9.out⟩
    · go_wp2_with fail
      refine (awakeA C _).mono ?_
      rintro ev w1 ⟨rfl, hs⟩
      have D1 := Lib.hid (D0.out.step hs)
      have R1 := Lib.hid (R0.out.below hs)
      have E1 := Lib.hid (E0.out.below hs)
      have B1 := Lib.hid (B0.out.trans (hs.mono B0.out.size))
      clear D0 R0 E0 B0
      clear hs
      go_wp2
      go_ret
      exact ⟨rfl, B1.out⟩
  · go_wp2_with fail
    refine (awakeA C _).mono ?_
    rintro ev w1 ⟨rfl, hs⟩
    have D1 := Lib.hid (D0.out.step hs)
    have R1 := Lib.hid (R0.out.below hs)
    have E1 := Lib.hid (E0.out.below hs)
    have B1 := Lib.hid (B0.out.trans (hs.mono B0.out.size))
    clear D0 R0 E0 B0
    clear hs
    go_wp2
    go_ret
    exact ⟨rfl, B1.out⟩
end Go.Proofs.Ytkokpbkpmhhemaa
