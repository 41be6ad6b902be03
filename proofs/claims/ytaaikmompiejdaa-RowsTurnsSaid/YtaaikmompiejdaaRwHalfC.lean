/- Package rows' own functions (layer 3), by contracts: Halve, Join. -/
import Derived.Test.YtaaikmompiejdaaRwPutC
namespace Go.Proofs.Ytaaikmompiejdaa
open Go.RowKit

theorem halve_few (v : Value) (rs : List Rw) (w : World) (hv : RowsV w v rs) (hl : rs.length < 2) :
    Calls Try.prog 28 #[v] w fun ev w' => ∃ v1 v2, ev = .returned (.tuple #[.string ⟨#[]⟩, v1, v2, .iface 40 (.int .i64 2)]) ∧ RowsV w' v1 [] ∧ RowsV w' v2 [] ∧ Below w.heap.size w w' := by
  obtain ⟨a, cap, rfl, -, -⟩ := hv.lenform
  clear hv
  go_enter Try.func28, Try.ntmps28
  go_wp2
  (try simp only [Exit.inBlock, Exit.then])
  refine bodyPost_ret (results_tmp4 rfl _ _) rfl ?_
  exact ⟨_, _, rfl, RowsV.nil _, RowsV.nil _, Below.refl _ _⟩
set_option maxRecDepth 100000 in
set_option maxHeartbeats 4000000 in
theorem halve_many (v : Value) (rs : List Rw) (w : World) (hv : RowsV w v rs) (hl : 2 ≤ rs.length) (hl2 : rs.length ≤ 1000) :
    Calls Try.prog 28 #[v] w fun ev w' => (halfB rs = true ∧ (∃ v1 v2, ev = .returned (.tuple #[.string (halfK rs), v1, v2, .nilIface]) ∧ RowsV w' v1 (rs.take (rs.length / 2)) ∧ RowsV w' v2 (rs.drop (rs.length / 2)) ∧ Below w.heap.size w w')
      ∨ halfB rs = false ∧ (∃ v1 v2, ev = .returned (.tuple #[.string ⟨#[]⟩, v1, v2, .iface 40 (.int .i64 1)]) ∧ RowsV w' v1 [] ∧ RowsV w' v2 [] ∧ Below w.heap.size w w')) := by
  rcases hv.form with ⟨-, rfl⟩ | ⟨b, off, cap, rfl, hlc, hcm, hc⟩
  · exact absurd hl (by simp)
  obtain ⟨m, hm⟩ : ∃ m, rs.length / 2 = m + 1 := ⟨rs.length / 2 - 1, by omega⟩
  have hq : (rs.length : Int) / 2 = (m : Int) + 1 := by omega
  have hm2 : m + 1 < rs.length := by omega
  have x0 := (hc m (by omega)).1
  have y0 := (hc (m + 1) hm2).1
  have V : Aside (RowsV w (.slice (some ⟨b, off, none⟩) rs.length cap) rs ∧ (rs.getD m r0).1.size ≤ maxLen ∧ (rs.getD (m + 1) r0).1.size ≤ maxLen ∧ rs.length ≤ 1000) := ⟨hv, (hv.small.at m).1, (hv.small.at (m + 1)).1, hl2⟩
  have D : Aside (halfB rs = bef (rs.getD m r0).1.data.toList (rs.getD (m + 1) r0).1.data.toList ∧ halfK rs = btw (rs.getD m r0).1 (rs.getD (m + 1) r0).1) := by
    constructor
    · unfold halfB; rw [hm, decide_eq_true hl]; rfl
    · unfold halfK; rw [hm]; rfl
  rw [hm]
  unfold maxLen at hcm
  clear hv hc hm hl2
  generalize (rs.getD m r0).1 = x at *
  generalize (rs.getD (m + 1) r0).1 = y at *
  have i1 : (0 : Int) ≤ (m : Int) + 1 := by omega
  have i2 : (m : Int) + 1 < (rs.length : Int) := by omega
  have i3 : (0 : Int) ≤ (m : Int) := by omega
  have i4 : (m : Int) < (rs.length : Int) := by omega
  have i5 : IntKind.i64.wrap (m : Int) = (m : Int) := Go.IntWalk.i64_in _ (by omega)
  have i6 : (m : Int) + 1 ≤ (cap : Int) := by omega
  have i7 : (m : Int) + 1 ≤ (rs.length : Int) := by omega
  have i8 : (rs.length : Int) ≤ (cap : Int) := by omega
  have hlt1 := lt_of_cell x0
  have xd : w.drew.cell? ⟨b, off + m * 2, none⟩ = some (.string x) := x0
  have yd : w.drew.cell? ⟨b, off + (m + 1) * 2, none⟩ = some (.string y) := y0
  cases hb : bef x.data.toList y.data.toList with
  | false =>
    have H := Lib.hid hb
    clear hb
    go_enter Try.func28, Try.ntmps28
    go_wp2_with fail
    go_region_held3 (fun w' => w'.cell? ⟨b, off + m * 2, none⟩ = some (.string x) ∧ w'.cell? ⟨b, off + (m + 1) * 2, none⟩ = some (.string y))
      (first | exact ⟨by assumption, by assumption⟩ | go_keep)
      (first
        | (go_at_call 42; (with_reducible refine (between_no x y _ H.out).mono ?_); rintro e w3 ⟨rfl, hs⟩; have F3 : Aside (Below w.heap.size w w3) := (Below.refl _ _).drew.trans (hs.mono (Nat.le_refl _)); have x3 := cell_step (w := w.drew) xd hs; have y3 := cell_step (w := w.drew) yd hs; clear hs))
    go_wp2
    (try simp only [Exit.inBlock, Exit.then])
    refine bodyPost_ret (results_tmp4 rfl _ _) rfl ?_
    exact .inr ⟨by rw [D.out.1]; exact H.out, _, _, rfl, RowsV.nil _, RowsV.nil _, F3.out⟩
  | true =>
    have H := Lib.hid hb
    clear hb
    go_enter Try.func28, Try.ntmps28
    go_wp2_with fail
    go_region_held3 (fun w' => w'.cell? ⟨b, off + m * 2, none⟩ = some (.string x) ∧ w'.cell? ⟨b, off + (m + 1) * 2, none⟩ = some (.string y))
      (first | exact ⟨by assumption, by assumption⟩ | go_keep)
      (first
        | (go_at_call 42; (with_reducible refine (between_yes x y _ V.out.2.1 V.out.2.2.1 H.out).mono ?_); rintro e w3 ⟨rfl, hs⟩; have F3 : Aside (Below w.heap.size w w3) := (Below.refl _ _).drew.trans (hs.mono (Nat.le_refl _)); have x3 := cell_step (w := w.drew) xd hs; have y3 := cell_step (w := w.drew) yd hs; clear hs))
    have R3 := Lib.hid (V.out.1.below F3.out).drew
    have B3 := Lib.hid F3.out.drew
    clear x3 y3 xd yd x0 y0
    have E : Aside (halfB rs = true ∧ halfK rs = btw x y) := ⟨by rw [D.out.1]; exact H.out, D.out.2⟩
    generalize btw x y = z at *
    have hne : ¬ cap = m + 1 := by omega
    go_wp2_with fail
    go_region_held3 (fun _ => True) (trivial)
      (first
        | (go_at_call 15; (with_reducible refine (copy_own _ (rs.take (m + 1)) _ (R3.out.takeV (k := m + 1) (by omega)) (by have := V.out.2.2.2; simp; omega)).mono ?_); rintro e w4 ⟨v1, rfl, ho, hs⟩; have O4 := Lib.hid (ho.rows (V.out.1.small.take (m + 1))); have B4 := Lib.hid (B3.out.trans (hs.mono B3.out.size)); have R4 := Lib.hid (R3.out.below hs); clear ho hs)
        | (go_at_call 15; (with_reducible refine (copy_own _ (rs.drop (m + 1)) _ (R4.out.dropV (k := m + 1) (by omega)) (by have := V.out.2.2.2; simp; omega)).mono ?_); rintro e w5 ⟨v2, rfl, ho, hs⟩; have O5 := Lib.hid (ho.rows (V.out.1.small.drop (m + 1))); have B5 := Lib.hid (B4.out.trans (hs.mono B4.out.size)); have O45 := Lib.hid (O4.out.below hs); clear ho hs))
    go_wp2
    (try simp only [Exit.inBlock, Exit.then])
    refine bodyPost_ret (results_tmp4 rfl _ _) rfl ?_
    exact .inl ⟨E.out.1, _, _, by rw [E.out.2]; rfl, O45.out, O5.out, B5.out⟩
end Go.Proofs.Ytaaikmompiejdaa
