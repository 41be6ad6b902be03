/- The document's own functions on rows (layer 3), by contracts: Halve. -/
import Derived.Test.YtaaikmompiejdaaRwPut
namespace Go.Proofs.Ytaaikmompiejdaa
open Go.RowKit

/-- is there something between the halves? -/
def halfB (rs : List Rw) : Bool := decide (2 ≤ rs.length) && bef (rs.getD (rs.length / 2 - 1) r0).1.data.toList (rs.getD (rs.length / 2) r0).1.data.toList
/-- what parts the halves -/
def halfK (rs : List Rw) : ByteArray := btw (rs.getD (rs.length / 2 - 1) r0).1 (rs.getD (rs.length / 2) r0).1
theorem results_tmp4 {P : Program} {fn : Func} {a b c d : Tmp} (h : fn.results = #[.tmp a, .tmp b, .tmp c, .tmp d]) (tmps : Array Value) (w : World) :
    (results fn tmps).run P w = .ok (.tuple #[tmps.getD a undef, tmps.getD b undef, tmps.getD c undef, tmps.getD d undef]) w := by
  simp [results, h]
theorem refHalve_few (v : Value) (rs : List Rw) (w : World) (hv : RowsV w v rs) (hl : rs.length < 2) :
    Calls Try.prog 29 #[v] w fun ev w' => ev = .returned (.tuple #[.string ⟨#[]⟩, .slice none 0 0, .slice none 0 0, .bool false]) ∧ Below w.heap.size w w' := by
  obtain ⟨a, cap, rfl, -, -⟩ := hv.lenform
  clear hv
  have hq : (rs.length : Int) / 2 = 0 := by omega
  go_enter Try.func29, Try.ntmps29
  go_wp2
  (try simp only [Exit.inBlock, Exit.then])
  refine bodyPost_ret (results_tmp4 rfl _ _) rfl ?_
  exact ⟨rfl, Below.refl _ _⟩
set_option maxRecDepth 100000 in
set_option maxHeartbeats 4000000 in
theorem refHalve_many (v : Value) (rs : List Rw) (w : World) (hv : RowsV w v rs) (hl : 2 ≤ rs.length) :
    Calls Try.prog 29 #[v] w fun ev w' => (halfB rs = true ∧ (∃ v1 v2, ev = .returned (.tuple #[.string (halfK rs), v1, v2, .bool true]) ∧ RowsV w' v1 (rs.take (rs.length / 2)) ∧ RowsV w' v2 (rs.drop (rs.length / 2)))
      ∨ halfB rs = false ∧ ev = .returned (.tuple #[.string ⟨#[]⟩, .slice none 0 0, .slice none 0 0, .bool false])) ∧ Below w.heap.size w w' := by
  have hnot : ∀ (x : Bool) (w : World), (Op.unary .not (.bool x)).run Try.prog w = .ok (.bool (!x)) w := fun _ _ => rfl
  rcases hv.form with ⟨-, rfl⟩ | ⟨b, off, cap, rfl, hlc, hcm, hc⟩
  · exact absurd hl (by simp)
  obtain ⟨m, hm⟩ : ∃ m, rs.length / 2 = m + 1 := ⟨rs.length / 2 - 1, by omega⟩
  have hq : (rs.length : Int) / 2 = (m : Int) + 1 := by omega
  have hm2 : m + 1 < rs.length := by omega
  have x0 := (hc m (by omega)).1
  have y0 := (hc (m + 1) hm2).1
  have V : Aside (RowsV w (.slice (some ⟨b, off, none⟩) rs.length cap) rs ∧ (rs.getD m r0).1.size ≤ maxLen ∧ (rs.getD (m + 1) r0).1.size ≤ maxLen) := ⟨hv, (hv.small.at m).1, (hv.small.at (m + 1)).1⟩
  have D : Aside (halfB rs = bef (rs.getD m r0).1.data.toList (rs.getD (m + 1) r0).1.data.toList ∧ halfK rs = btw (rs.getD m r0).1 (rs.getD (m + 1) r0).1) := by
    constructor
    · unfold halfB; rw [hm, decide_eq_true hl]; rfl
    · unfold halfK; rw [hm]; rfl
  rw [hm]
  unfold maxLen at hcm
  clear hv hc hm
  generalize (rs.getD m r0).1 = x at *
  generalize (rs.getD (m + 1) r0).1 = y at *
  have i1 : (0 : Int) ≤ (m : Int) + 1 := by omega
  have i2 : (m : Int) + 1 < (rs.length : Int) := by omega
  have i3 : (0 : Int) ≤ (m : Int) := by omega
  have i4 : (m : Int) < (rs.length : Int) := by omega
  have i5 : IntKind.i64.wrap (m : Int) = (m : Int) := Go.IntWalk.i64_in _ (by omega)
  have i6 : (m : Int) + 1 ≤ (cap : Int) := by omega
  have hlt1 := lt_of_cell x0
  have xd : w.drew.cell? ⟨b, off + m * 2, none⟩ = some (.string x) := x0
  have yd : w.drew.cell? ⟨b, off + (m + 1) * 2, none⟩ = some (.string y) := y0
  cases hb : bef x.data.toList y.data.toList with
  | false =>
    have H := Lib.hid hb
    clear hb
    go_enter Try.func29, Try.ntmps29
    go_wp2_with fail
    go_region_held3 (fun w' => w'.cell? ⟨b, off + m * 2, none⟩ = some (.string x) ∧ w'.cell? ⟨b, off + (m + 1) * 2, none⟩ = some (.string y))
      (first | exact ⟨by assumption, by assumption⟩ | go_keep)
      (first
        | (go_at_call 43; (with_reducible refine (refBetween_no x y _ V.out.2.1 V.out.2.2 H.out).mono ?_); rintro e w3 ⟨rfl, hs⟩; have F3 : Aside (Below w.heap.size w w3) := (Below.refl _ _).drew.trans (hs.mono (Nat.le_refl _)); have x3 := (hs.cell (p := ⟨b, off + m * 2, none⟩) (lt_of_cell xd)).trans xd; have y3 := (hs.cell (p := ⟨b, off + (m + 1) * 2, none⟩) (lt_of_cell yd)).trans yd; clear hs))
    go_wp2
    (try simp only [Exit.inBlock, Exit.then])
    refine bodyPost_ret (results_tmp4 rfl _ _) rfl ?_
    exact ⟨.inr ⟨by rw [D.out.1]; exact H.out, rfl⟩, F3.out⟩
  | true =>
    have H := Lib.hid hb
    clear hb
    go_enter Try.func29, Try.ntmps29
    go_wp2_with fail
    go_region_held3 (fun w' => w'.cell? ⟨b, off + m * 2, none⟩ = some (.string x) ∧ w'.cell? ⟨b, off + (m + 1) * 2, none⟩ = some (.string y))
      (first | exact ⟨by assumption, by assumption⟩ | go_keep)
      (first
        | (go_at_call 43; (with_reducible refine (refBetween_yes x y _ V.out.2.1 V.out.2.2 H.out).mono ?_); rintro e w3 ⟨rfl, hs⟩; have F3 : Aside (Below w.heap.size w w3) := (Below.refl _ _).drew.trans (hs.mono (Nat.le_refl _)); have x3 := (hs.cell (p := ⟨b, off + m * 2, none⟩) (lt_of_cell xd)).trans xd; have y3 := (hs.cell (p := ⟨b, off + (m + 1) * 2, none⟩) (lt_of_cell yd)).trans yd; clear hs))
    have R3 := Lib.hid (V.out.1.below F3.out)
    clear x3 y3 xd yd x0 y0
    have E : Aside (halfB rs = true ∧ halfK rs = btw x y) := ⟨by rw [D.out.1]; exact H.out, D.out.2⟩
    generalize btw x y = z at *
    have hne : ¬ cap = m + 1 := by omega
    go_wp2_with fail
    go_quiet (fail)
    go_wp2
    all_goals
      (try simp only [Exit.inBlock, Exit.then])
      refine bodyPost_ret (results_tmp4 rfl _ _) rfl ?_
      have RD := R3.out.dropI (k := m + 1) (by omega)
      rw [if_neg hne] at RD
      exact ⟨.inl ⟨E.out.1, _, _, by rw [E.out.2]; rfl, (R3.out.takeV (k := m + 1) (by omega)).below (below_drewN (Below.refl _ _) _), RD.below (below_drewN (Below.refl _ _) _)⟩, below_drewN F3.out _⟩
end Go.Proofs.Ytaaikmompiejdaa
