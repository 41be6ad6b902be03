/- InstallPlays: at every limits, jobs and turns the law answers true. Its condition: the row's own (errors.errorType reads as start-up lays it), tied to the program's text by the card. -/
import Derived.Test.YtejmdmaebkdjoaaGreatDoorErrLaid
import Derived.Test.YtejmdmaebkdjoaaGreatDoorPlLaw
import Derived.Test.YtejmdmaebkdjoaaGreatDoorTie
import Derived.Test.YtejmdmaebkdjoaaGreatDoorCards
import Derived.SevenTiedAt
namespace Go.Proofs.YtejmdmaebkdjoaaGreatDoor
set_option linter.unusedVariables false
set_option linter.unusedSimpArgs false
set_option maxRecDepth 100000
open Go.ChangeShapes Go.WideShapes Go.RowKit
open Go.ChangeMaps (open_string)
theorem installplays_lifted (os : Os) (started : os.Started) (H : Type) (enc : TypeId × Value → H) :
  ReturnsInHanded {} Tryz.checked os 3 .any (fun w args => (Rows.installPlaysSpec.pre enc Tryz.prog Tryz.f3 [] false w args ∧ laidMetH Tryz.prog [("errors.errorType", Rows.laid_errors_errorType)] w) ∧ sizedMet enc Tryz.prog Tryz.f3 (OpenSpec.ofChange Rows.installPlaysSpec) false w args)
   (Rows.installPlaysSpec.post enc Tryz.prog Tryz.f3 false true false false) := by
 refine returnsInHanded_of_change_and (C := Tryz.checked) (X := fun w _ => laidMetH Tryz.prog [("errors.errorType", Rows.laid_errors_errorType)] w) (fun _ _ _ hh h => h.of_heap hh) Tryz.own started (by kernel_rfl) Tryz.func3
  (ChangeSpec.witness_at (enc := enc) (C := Tryz.checked) (os := os) (X := fun w _ => laidMetH Tryz.prog [("errors.errorType", Rows.laid_errors_errorType)] w) false (laidWorld os) #[.agg #[.int .i64 0, .int .i64 0, .int .i64 0, .int .i64 0, .int .i64 0, .int .i64 0], .slice none 0 0, .slice none 0 0] 8 rfl (by kernel_rfl) (by kernel_rfl) (by kernel_rfl) (by kernel_rfl) (by kernel_rfl) (laidWorld_met os _)) ?_
 intro W base args ds gs before hval0 hW _ _ hL _
 have hval : ∀ (j : Nat) t v, Tryz.f3.params[j]? = some t → args[j]? = some v → Value.okWide Tryz.prog W .any base t v := hval0
 have hW' := hW
 obtain ⟨p, q, hA0, hV0, rfl, hfz, hnd⟩ := hW
 have hA : DataW.TrodAll enc Tryz.prog W 0 (fun _ => true) true Tryz.f3.params.toList args.toList ds p := hA0
 have hV : DataW.TrodVars enc Tryz.prog W (fun _ => true) [] gs q := hV0
 obtain ⟨rfl, rfl⟩ := trodVars_none hV
 rw [Tryz.params3] at hA hval
 obtain ⟨v0, v1, v2, d0, d1, d2, p0, p1, p2, rfl, rfl, rfl, h0, h1, h2⟩ := trodAll_three hA
 obtain ⟨l0, rfl⟩ := lim_in (hval 0 23 v0 rfl rfl) h0
 obtain ⟨jt, sj, hj⟩ := jobs_in (hval 1 24 v1 rfl rfl) h1
 obtain ⟨ta, tc, zs, rfl, st, hz⟩ := u8s_in (hval 2 25 v2 rfl rfl) h2
 refine (lawPlays l0 v1 jt ta tc zs W (glob_of_laid hL) sj hj st hz).mono fun e W' ⟨he, hw⟩ => ?_
 subst he
 exact ⟨_, rfl, law_post (B := 4) rfl hW' rfl Tryz.laidOut (of_decide_eq_true (by kernel_rfl)) (by kernel_rfl) Tryz.underlying4 hw⟩
theorem installplays_row : Rows.InstallPlaysSaid :=
 OpenClaim.holds_of_wide 3 Tryz.f3 rfl rfl rfl rfl rfl rfl rfl ⟨rfl, rfl, rfl, rfl, rfl⟩ rfl rfl rfl rfl rfl (by kernel_rfl) Tryz.func3 (by kernel_rfl)
  (of_decide_eq_true (by kernel_rfl)) (by unfold Func.isWrapper; rw [if_neg (of_decide_eq_false (by kernel_rfl))]; exact ⟨rfl, rfl⟩)
  (fun os started H enc _ => installplays_lifted os started H enc)
theorem installplays_holds : Rows.InstallPlaysCardSaid :=
 Claim7.holds_tied_plain_at .later [] [.handle] true _ true
  installplays_row (fun _ h => by cases h) (by kernel_rfl) (fun _ h => by cases h) installPlays_row_tie rfl ⟨rfl, rfl⟩ (by kernel_rfl) rfl
  (fun f fn hf hfn => by
   obtain rfl : f = 3 := Option.some.inj ((show Tryz.prog.funcNamed "rowlock/rowlocklaw12.InstallPlays" = some 3 by kernel_rfl).symm.trans hf) |>.symm
   obtain rfl : fn = Tryz.f3 := (Option.some.inj (Tryz.func3.symm.trans hfn)).symm
   exact ⟨by kernel_rfl, fun j t ht => by
    rw [Tryz.params3] at ht
    have hm : t ∈ [23, 24, 25] := List.mem_of_getElem? (l := [23, 24, 25]) (i := j) (by simpa using ht)
    have hall : ∀ t ∈ [23, 24, 25], Tryz.prog.wantsStandIn t = false := of_decide_eq_true (by kernel_rfl)
    exact hall t hm⟩)
  (by kernel_rfl)
#print axioms installplays_holds
end Go.Proofs.YtejmdmaebkdjoaaGreatDoor
