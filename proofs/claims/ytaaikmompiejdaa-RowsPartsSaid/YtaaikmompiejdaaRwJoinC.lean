/- Package rows' own functions (layer 3), by contracts: Join. -/
import Derived.Test.YtaaikmompiejdaaRwCut
import Derived.Test.YtaaikmompiejdaaRwSame
import Derived.Test.YtaaikmompiejdaaRwMore
namespace Go.Proofs.Ytaaikmompiejdaa
open Go.RowKit

set_option maxRecDepth 100000 in
set_option maxHeartbeats 4000000 in
theorem join_all (v u : Value) (rs ss : List Rw) (w : World) (hv : RowsV w v rs) (hu : RowsV w u ss) (hl : rs.length ≤ 1000) (hl2 : ss.length ≤ 1000) :
    Calls Try.prog 30 #[v, u] w fun ev w' => (clashB rs ss = false ∧ (∃ v', ev = .returned (.tuple #[v', .nilIface]) ∧ RowsV w' v' (rs ++ ss) ∧ Below w.heap.size w w'))
      ∨ clashB rs ss = true ∧ (∃ v', ev = .returned (.tuple #[v', .iface 40 (.int .i64 2)]) ∧ RowsV w' v' [] ∧ Below w.heap.size w w') := by
  have V : Aside (RowsV w v rs ∧ RowsV w u ss ∧ rs.length ≤ 1000 ∧ ss.length ≤ 1000) := ⟨hv, hu, hl, hl2⟩
  have hS := hv.small.append hu.small
  by_cases h1 : rs.length = 0
  · have e1 : rs = [] := List.eq_nil_of_length_eq_zero h1
    subst e1
    obtain ⟨a, cap, rfl, -, hm⟩ := hv.lenform
    obtain ⟨b, dap, rfl, -, hn⟩ := hu.lenform
    have D : Aside (clashB [] ss = false) := rfl
    have S := Lib.hid hS
    clear hv hu hl hl2 h1 hS
    simp only [List.length_nil]
    simp only [List.length_nil] at V
    go_enter Try.func30, Try.ntmps30
    go_wp2_with fail
    go_quiet (fail)
    have Bq := Lib.hid (below_drewN (Below.refl w.heap.size w) nq)
    have A1 := Lib.hid (V.out.1.below Bq.out)
    have A2 := Lib.hid (V.out.2.1.below Bq.out)
    go_wp2_with fail
    refine (concat2 _ _ rfl _ _ _ _ A1.out A2.out (by have := V.out.2.2; simp; omega)).mono ?_
    rintro ev w3 ⟨v3, rfl, ho, hs⟩
    have O := Lib.hid (ho.rows S.out)
    have B := Lib.hid (Bq.out.trans hs)
    clear ho hs
    go_wp2
    go_ret2
    exact .inl ⟨D.out, _, rfl, O.out, B.out⟩
  · rcases hv.form with ⟨-, rfl⟩ | ⟨b, off, cap, rfl, hlc, hcm, hc⟩
    · exact absurd rfl h1
    obtain ⟨p, hp⟩ : ∃ p, rs.length = p + 1 := ⟨rs.length - 1, by omega⟩
    have x0 := (hc p (by omega)).1
    by_cases h2 : ss.length = 0
    · have e2 : ss = [] := List.eq_nil_of_length_eq_zero h2
      subst e2
      obtain ⟨d, dap, rfl, -, hn⟩ := hu.lenform
      have D : Aside (clashB rs [] = false) := clash_nil rs
      have S := Lib.hid hS
      have L1 := Lib.hid hl
      rw [hp] at V ⊢
      clear hv hu hl hl2 h1 hS hp hc x0 h2
      simp only [List.length_nil]
      simp only [List.length_nil] at V
      go_enter Try.func30, Try.ntmps30
      go_wp2_with fail
      go_quiet (fail)
      have Bq := Lib.hid (below_drewN (Below.refl w.heap.size w) nq)
      have A1 := Lib.hid (V.out.1.below Bq.out)
      have A2 := Lib.hid (V.out.2.1.below Bq.out)
      go_wp2_with fail
      refine (concat2 _ _ rfl _ _ _ _ A1.out A2.out (by have := L1.out; simp; omega)).mono ?_
      rintro ev w3 ⟨v3, rfl, ho, hs⟩
      have O := Lib.hid (ho.rows S.out)
      have B := Lib.hid (Bq.out.trans hs)
      clear ho hs
      go_wp2
      go_ret2
      exact .inl ⟨D.out, _, rfl, O.out, B.out⟩
    · rcases hu.form with ⟨-, rfl⟩ | ⟨d, dff, dap, rfl, hld, hdm, hd⟩
      · exact absurd rfl h2
      obtain ⟨q, hq⟩ : ∃ q, ss.length = q + 1 := ⟨ss.length - 1, by omega⟩
      have y0 := (hd 0 (by omega)).1
      simp only [Nat.zero_mul, Nat.add_zero] at y0
      have D := Lib.hid (clash_last (ss := ss) hp (fun e => h2 (by rw [e]; rfl)))
      have S := Lib.hid hS
      have V' := V
      have L1 := Lib.hid hl
      have L2 := Lib.hid hl2
      have hpl : (p : Int) + 1 ≤ 1000 := by omega
      have hql : (q : Int) + 1 ≤ 1000 := by omega
      rw [hp, hq] at V' ⊢
      clear hv hu hl hl2 h1 hS hp hc h2 V hq hd hlc hcm hld hdm
      generalize (rs.getD p r0).1 = x at *
      generalize (ss.getD 0 r0).1 = y at *
      have i3 : (0 : Int) ≤ (p : Int) := by omega
      have i4 : (p : Int) < (p : Int) + 1 := by omega
      have i5 : IntKind.i64.wrap (p : Int) = (p : Int) := Go.IntWalk.i64_in _ (by omega)
      have i6 : (0 : Int) < (q : Int) + 1 := by omega
      have xd : w.drew.cell? ⟨b, off + p * 2, none⟩ = some (.string x) := x0
      have yd : w.drew.cell? ⟨d, dff, none⟩ = some (.string y) := y0
      obtain ⟨c, hcz⟩ : ∃ c, cmp x.data.toList y.data.toList = c := ⟨_, rfl⟩
      have Z := Lib.hid hcz
      cases hb : bef x.data.toList y.data.toList with
      | false =>
        have hn := cmp_ge hb
        rw [hcz] at hn
        have H := Lib.hid hb
        clear hb hcz
        go_enter Try.func30, Try.ntmps30
        go_wp2_with fail
        go_region_held3 (fun w' => w'.cell? ⟨b, off + p * 2, none⟩ = some (.string x) ∧ w'.cell? ⟨d, dff, none⟩ = some (.string y))
          (first | exact ⟨by assumption, by assumption⟩ | go_keep)
          (first
            | (go_at_call 31; (with_reducible refine (stillR (compare_any x y _)).mono ?_); rintro e w3 ⟨rfl, hs⟩; rw [Z.out]; have F3 : Aside (Below w.heap.size w w3) := (Below.refl _ _).drew.trans (hs.mono (Nat.le_refl _)); have x3 := cell_step (w := w.drew) xd hs; have y3 := cell_step (w := w.drew) yd hs; clear hs))
        go_wp2
        go_ret2
        exact .inr ⟨by rw [D.out, H.out]; rfl, _, rfl, RowsV.nil _, F3.out⟩
      | true =>
        have hn := cmp_lt hb
        rw [hcz] at hn
        have H := Lib.hid hb
        clear hb hcz
        go_enter Try.func30, Try.ntmps30
        go_wp2_with fail
        go_region_held3 (fun w' => w'.cell? ⟨b, off + p * 2, none⟩ = some (.string x) ∧ w'.cell? ⟨d, dff, none⟩ = some (.string y))
          (first | exact ⟨by assumption, by assumption⟩ | go_keep)
          (first
            | (go_at_call 31; (with_reducible refine (stillR (compare_any x y _)).mono ?_); rintro e w3 ⟨rfl, hs⟩; rw [Z.out]; have F3 : Aside (Below w.heap.size w w3) := (Below.refl _ _).drew.trans (hs.mono (Nat.le_refl _)); have x3 := cell_step (w := w.drew) xd hs; have y3 := cell_step (w := w.drew) yd hs; clear hs))
        have A1 := Lib.hid (V'.out.1.below F3.out)
        have A2 := Lib.hid (V'.out.2.1.below F3.out)
        go_wp2_with fail
        refine (concat2 _ _ rfl _ _ _ _ A1.out A2.out (by have := L1.out; have := L2.out; omega)).mono ?_
        rintro ev w4 ⟨v4, rfl, ho, hs⟩
        have O := Lib.hid (ho.rows S.out)
        have B := Lib.hid (F3.out.trans (hs.mono F3.out.size))
        clear ho hs
        go_wp2
        go_ret2
        exact .inl ⟨by rw [D.out, H.out]; rfl, _, rfl, O.out, B.out⟩
end Go.Proofs.Ytaaikmompiejdaa
