/- FaultOthers: at every way, code, place and slot the law answers true. Its conditions: the row's own (errors.errorType reads as start-up lays it), tied to the program's text by the card. -/
import Derived.Test.YtkhhdaekdledoaaDoorFltLaid
import Derived.Test.YtkhhdaekdledoaaDoorFltLawO
import Derived.Test.YtkhhdaekdledoaaDoorTie
import Derived.Test.YtkhhdaekdledoaaDoorCards
import Derived.SevenTiedAt
namespace Go.Proofs.YtkhhdaekdledoaaDoor
open Go.ChangeShapes Go.WideShapes Go.RowKit
open Go.ChangeMaps (open_string)

theorem Tryd.laidOut : laidOutB Tryd.prog = true := by kernel_rfl

set_option maxRecDepth 100000 in
/-- A way that came in: its places, its slots, its code. -/
theorem way_of {H : Type} {enc : TypeId × Value → H} {w : World} {base : Nat} {spare : Nat → Bool} {held : Bool} {r : Reach} {b0 : Nat} {v : Value} {d : DataW H} {p : List MemPlace}
    (hv : Value.okWide Tryd.prog w r b0 26 v) (h : DataW.Trod enc Tryd.prog w base spare held 26 v d p) :
    ∃ vp vs c ps ss, v = .agg #[vp, vs, .int .i64 c] ∧ StrsV w vp ps ∧ IntsV w vs ss := by
  obtain ⟨v0, v1, v2, y0, y1, y2, n, rfl, -, -, h0, h1, h2⟩ := Go.Joins.open_agg3 Tryd.underlying26 (by kernel_rfl) (by kernel_rfl) hv h
  obtain ⟨c, e2, -, -⟩ := DataW.trod_int Tryd.underlying24 h2
  obtain rfl : v2 = .int .i64 c := by simpa using e2
  obtain ⟨ps, hp⟩ := strsV_of Tryd.underlying22 Tryd.underlying9 (by kernel_rfl) h0
  obtain ⟨ss, hs⟩ := intsV_of Tryd.underlying23 Tryd.underlying3 (by kernel_rfl) h1
  exact ⟨v0, v1, c, ps, ss, rfl, hp, hs⟩

set_option maxRecDepth 100000 in
theorem others_lifted (os : Os) (started : os.Started) (H : Type) (enc : TypeId × Value → H) :
    ReturnsInHanded {} Tryd.checked os 3 .any (fun w args => (Rows.faultOthersSpec.pre enc Tryd.prog Tryd.f3 [] false w args ∧ laidMetH Tryd.prog [("errors.errorType", Rows.laid_errors_errorType)] w) ∧ sizedMet enc Tryd.prog Tryd.f3 (OpenSpec.ofChange Rows.faultOthersSpec) false w args)
      (Rows.faultOthersSpec.post enc Tryd.prog Tryd.f3 false true false false) := by
  refine returnsInHanded_of_change_and (C := Tryd.checked) (X := fun w _ => laidMetH Tryd.prog [("errors.errorType", Rows.laid_errors_errorType)] w) (fun _ _ _ hh h => h.of_heap hh) Tryd.own started (by kernel_rfl) Tryd.func3
    (ChangeSpec.witness_at (enc := enc) (C := Tryd.checked) (os := os) (X := fun w _ => laidMetH Tryd.prog [("errors.errorType", Rows.laid_errors_errorType)] w) false (laidWorld os) #[.agg #[.slice none 0 0, .slice none 0 0, .int .i64 0], .int .i64 0, .string ⟨#[]⟩, .int .i64 0] 8 rfl (by kernel_rfl) (by kernel_rfl) (by kernel_rfl) (by kernel_rfl) (by kernel_rfl) (laidWorld_met os _)) ?_
  intro W base args ds gs before hval0 hW _ _ hL _
  have hval : ∀ (j : Nat) t v, Tryd.f3.params[j]? = some t → args[j]? = some v → Value.okWide Tryd.prog W .any base t v := hval0
  have hW' := hW
  obtain ⟨p, q, hA0, hV0, rfl, hfz, hnd⟩ := hW
  have hA : DataW.TrodAll enc Tryd.prog W 0 (fun _ => true) true Tryd.f3.params.toList args.toList ds p := hA0
  have hV : DataW.TrodVars enc Tryd.prog W (fun _ => true) [] gs q := hV0
  obtain ⟨rfl, rfl⟩ := trodVars_none hV
  rw [Tryd.params3] at hA hval
  obtain ⟨v0, v1, v2, v3, d0, d1, d2, d3, p0, p1, p2, p3, rfl, rfl, rfl, h0, h1, h2, h3⟩ := trodAll_four hA
  obtain ⟨vp, vs, wc, ps, ss, rfl, hp, hs⟩ := way_of (hval 0 26 v0 rfl rfl) h0
  obtain ⟨c, rfl, -, -, -⟩ := open_int Tryd.underlying24 (hval 1 24 v1 rfl rfl) h1
  obtain ⟨place, rfl, -, -, -⟩ := open_string Tryd.underlying9 (hval 2 9 v2 rfl rfl) h2
  obtain ⟨slot, rfl, -, -, -⟩ := open_int Tryd.underlying3 (hval 3 3 v3 rfl rfl) h3
  refine (lawOthers vp vs wc c place slot ps ss W (glob_of_laid hL) hp hs).mono fun e W' ⟨he, hw⟩ => ?_
  subst he
  exact ⟨_, rfl, law_post (B := 4) rfl hW' rfl Tryd.laidOut (of_decide_eq_true (by kernel_rfl)) (by kernel_rfl) Tryd.underlying4 hw⟩

theorem others_row : Rows.FaultOthersSaid :=
  OpenClaim.holds_of_wide 3 Tryd.f3 rfl rfl rfl rfl rfl rfl rfl ⟨rfl, rfl, rfl, rfl, rfl⟩ rfl rfl rfl rfl rfl (by kernel_rfl) Tryd.func3 (by kernel_rfl)
    (of_decide_eq_true (by kernel_rfl)) (by unfold Func.isWrapper; rw [if_neg (of_decide_eq_false (by kernel_rfl))]; exact ⟨rfl, rfl⟩)
    (fun os started H enc _ => others_lifted os started H enc)

theorem others_holds : Rows.FaultOthersCardSaid :=
  Claim7.holds_tied_plain_at .later [] [.handle] true _ true
    others_row (fun _ h => by cases h) (by kernel_rfl) (fun _ h => by cases h) faultOthers_row_tie rfl ⟨rfl, rfl⟩ (by kernel_rfl) rfl
    (fun f fn hf hfn => by
      obtain rfl : f = 3 := Option.some.inj ((show Tryd.prog.funcNamed "rowlock/rowlocklaw01.FaultOthers" = some 3 by kernel_rfl).symm.trans hf) |>.symm
      obtain rfl : fn = Tryd.f3 := (Option.some.inj (Tryd.func3.symm.trans hfn)).symm
      exact ⟨by kernel_rfl, fun j t ht => by
        rw [Tryd.params3] at ht
        have hm : t ∈ [26, 24, 9, 3] := by
          have := List.mem_of_getElem? (l := [26, 24, 9, 3]) (i := j) (by simpa using ht)
          exact this
        have hall : ∀ t ∈ [26, 24, 9, 3], Tryd.prog.wantsStandIn t = false := of_decide_eq_true (by kernel_rfl)
        exact hall t hm⟩)
    (by kernel_rfl)
#print axioms others_holds
end Go.Proofs.YtkhhdaekdledoaaDoor
