/- CommitsTwice: at every rows and two parts the law answers true. No condition. -/
import Derived.Test.YtkbfhpgcjljbbaaCmLaid
import Derived.Test.YtkbfhpgcjljbbaaCmTwice
import Derived.Test.YtkbfhpgcjljbbaaCmX
namespace Go.Proofs.Ytkbfhpgcjljbbaa
set_option linter.unusedVariables false
set_option linter.unusedSimpArgs false
open Go.ChangeShapes Go.WideShapes Go.RowKit
open Go.ChangeMaps (open_string)

set_option maxRecDepth 100000 in
theorem commitstwice_lifted (os : Os) (started : os.Started) (H : Type) (enc : TypeId × Value → H) :
    ReturnsInHanded {} Try.checked os 7 .any (Rows.commitsTwiceSpec.pre6 enc Try.prog Try.f7 Rows.commitsTwiceRow.domain false) (Rows.commitsTwiceSpec.post enc Try.prog Try.f7 false true false false) := by
  refine returnsInHanded_of_change (C := Try.checked) Try.own started (by kernel_rfl) Try.func7
    (ChangeSpec.witness6 (enc := enc) (C := Try.checked) false ⟨#[], #[.slice none 0 0, .slice none 0 0, .slice none 0 0], []⟩ 8 (by kernel_rfl) (by kernel_rfl) (by kernel_rfl) (by kernel_rfl)) ?_
  intro W base args ds gs before hval0 hW _ _
  have hval : ∀ (j : Nat) t v, Try.f7.params[j]? = some t → args[j]? = some v → Value.okWide Try.prog W .any base t v := hval0
  have hW' := hW
  obtain ⟨p, q, hA0, hV0, rfl, hfz, hnd⟩ := hW
  have hA : DataW.TrodAll enc Try.prog W 0 (fun _ => true) true Try.f7.params.toList args.toList ds p := hA0
  have hV : DataW.TrodVars enc Try.prog W (fun _ => true) [] gs q := hV0
  obtain ⟨rfl, rfl⟩ := trodVars_none hV
  rw [Try.params7] at hA hval
  obtain ⟨v0, v1, v2, d0, d1, d2, p0, p1, p2, rfl, rfl, rfl, h0, h1, h2⟩ := trodAll_three hA
  obtain ⟨r0, q0⟩ := rows_in (hval 0 38 v0 rfl rfl) h0
  obtain ⟨x1, q1⟩ := wrs_in (hval 1 26 v1 rfl rfl) h1
  obtain ⟨x2, q2⟩ := wrs_in (hval 2 26 v2 rfl rfl) h2
  refine (lawTwice16 cmc _ _ _ r0 x1 x2 W q0 q1 q2).mono fun e W' ⟨he, hw⟩ => ?_
  subst he
  exact ⟨_, rfl, law_post (B := 4) rfl hW' rfl Try.laidOut (of_decide_eq_true (by kernel_rfl)) (by kernel_rfl) Try.underlying4 hw⟩

theorem commitstwice_holds : Rows.CommitsTwiceSaid :=
  OpenClaim.holds_of_wide 7 Try.f7 rfl rfl rfl rfl rfl rfl rfl ⟨rfl, rfl, rfl, rfl, rfl⟩ rfl rfl rfl rfl rfl (by kernel_rfl) Try.func7 (by kernel_rfl)
    (of_decide_eq_true (by kernel_rfl)) (by unfold Func.isWrapper; rw [if_neg (of_decide_eq_false (by kernel_rfl))]; exact ⟨rfl, rfl⟩)
    (fun os started H enc _ => commitstwice_lifted os started H enc)
#print axioms commitstwice_holds
end Go.Proofs.Ytkbfhpgcjljbbaa
