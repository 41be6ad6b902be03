/-
  NARROWER THAN 'FOR EVERY INPUT', by the rows' own cells (each row's printed sentence says how): EpochPlays: laid · EpochGuards: laid · EpochCopies: laid · EpochRises: laid · EpochEmpty: laid · EpochLeast: laid.
  DERIVED. THE GIVEN ROWS OF THIS SEAT. 6 by the template 'for every input the law returns true; each argument reads behind the call as it read before'; 0 by the template 'total and deterministic' (their statements: YtocigedgicgonaaDoorTotals.lean).
  GIVEN WITH THE SEED: the statements are not yours to turn. If you find one false, say at which input.
  Laid BY PROGRAM, IN A SANDBOX (cutbox-rows.mjs): the forced cells as the released guide's own fill.sh prints them over the translation 8f5557bed586e42a… (all of the seat's roots in one cut). By AI agents, Wed Nov 11 2026. No macro, syntax, notation, axiom, sorry.
-/
import Derived.Test.YtocigedgicgonaaDoorChecked
import GoSem.Claim
import GoSem.ClaimJoined
import GoSem.ClaimMapViews
import Derived.JoinedTies
import Derived.KernelRfl
namespace Go.Proofs.YtocigedgicgonaaDoor
/- THE CELL 'sum', in the pinned program and in every row, IS THE sha256 OF THE DUMP (.gsa) THAT YtocigedgicgonaaDoorProg.lean LOADS. Nothing in Lean hashes anything: it is a label: what it is worth is what the hold of that sum in a sandbox is worth. -/
noncomputable def Tryd.pinned : Pinned := { name := "ytocigedgicgonaadoor", sum := "8f5557bed586e42a6cae8607cd8bc61bf2ee00e1b8d6b9b0b53a97ff2cde4177", checked := Tryd.checked }
namespace Rows
def none {H : Type} : Left H := { results := [], args := [] }

/- WHAT THE LISTED PACKAGE-LEVEL VARIABLES READ AS WHEN THE CALL BEGINS. Each datum BY PROGRAM (the guide's laid-datum.mjs) off the statement by which the dump's own 'gosem.cut.vars' lays the variable. In a bare row this is a premise. The card (YtocigedgicgonaaDoorCards.lean) ties it to the program's text. -/
def laid_errors_errorType {H : Type} : DataW H := .iface "internal/reflectlite.rtype" (.agg [.ptr (.lit (.string [101, 114, 114, 111, 114]))])

/-- 'rowlocklaw06.EpochPlays': WHATEVER THE INPUT: true; the input reads as it did. -/
def epochPlaysSpec : ChangeSpec := { name := "epochPlays", fn := fun _ => fun
  | [d1, d2, d3] => { results := [.lit (.bool true)], args := [d1, d2, d3] }
  | _ => none }
def epochPlaysRow : OpenClaim := { program := "ytocigedgicgonaadoor", sum := "8f5557bed586e42a6cae8607cd8bc61bf2ee00e1b8d6b9b0b53a97ff2cde4177", func := "rowlock/rowlocklaw06.EpochPlays", spec := "epochPlays", inPlace := ["internal/reflectlite.ValueOf", "(internal/reflectlite.Value).Type", "(internal/reflectlite.Value).IsNil", "internal/reflectlite.TypeOf", "(internal/reflectlite.Value).Elem", "(internal/reflectlite.Value).Set"], unfollowed := true, recurses := true, named := ["errors.errorType"], apart := false, laid := [("errors.errorType", laid_errors_errorType)] }
def EpochPlaysSaid : Prop := epochPlaysRow.holds Tryd.pinned (OpenSpec.ofChange epochPlaysSpec)

/-- ITS FALSE NEIGHBOUR: 'it returns false'. Refute it at one input. -/
def epochPlaysWrong : ChangeSpec := { name := "epochPlays", fn := fun _ => fun
  | [d1, d2, d3] => { results := [.lit (.bool false)], args := [d1, d2, d3] }
  | _ => none }
def EpochPlaysWrongFalsely : Prop := epochPlaysRow.holds Tryd.pinned (OpenSpec.ofChange epochPlaysWrong)

/-- 'rowlocklaw06.EpochGuards': WHATEVER THE INPUT: true; the input reads as it did. -/
def epochGuardsSpec : ChangeSpec := { name := "epochGuards", fn := fun _ => fun
  | [d1, d2, d3, d4, d5] => { results := [.lit (.bool true)], args := [d1, d2, d3, d4, d5] }
  | _ => none }
def epochGuardsRow : OpenClaim := { program := "ytocigedgicgonaadoor", sum := "8f5557bed586e42a6cae8607cd8bc61bf2ee00e1b8d6b9b0b53a97ff2cde4177", func := "rowlock/rowlocklaw06.EpochGuards", spec := "epochGuards", inPlace := ["internal/reflectlite.ValueOf", "(internal/reflectlite.Value).Type", "(internal/reflectlite.Value).IsNil", "internal/reflectlite.TypeOf", "(internal/reflectlite.Value).Elem", "(internal/reflectlite.Value).Set"], unfollowed := true, recurses := true, named := ["errors.errorType"], apart := false, laid := [("errors.errorType", laid_errors_errorType)] }
def EpochGuardsSaid : Prop := epochGuardsRow.holds Tryd.pinned (OpenSpec.ofChange epochGuardsSpec)

/-- ITS FALSE NEIGHBOUR: 'it returns false'. Refute it at one input. -/
def epochGuardsWrong : ChangeSpec := { name := "epochGuards", fn := fun _ => fun
  | [d1, d2, d3, d4, d5] => { results := [.lit (.bool false)], args := [d1, d2, d3, d4, d5] }
  | _ => none }
def EpochGuardsWrongFalsely : Prop := epochGuardsRow.holds Tryd.pinned (OpenSpec.ofChange epochGuardsWrong)

/-- 'rowlocklaw06.EpochCopies': WHATEVER THE INPUT: true; the input reads as it did. -/
def epochCopiesSpec : ChangeSpec := { name := "epochCopies", fn := fun _ => fun
  | [d1, d2, d3, d4] => { results := [.lit (.bool true)], args := [d1, d2, d3, d4] }
  | _ => none }
def epochCopiesRow : OpenClaim := { program := "ytocigedgicgonaadoor", sum := "8f5557bed586e42a6cae8607cd8bc61bf2ee00e1b8d6b9b0b53a97ff2cde4177", func := "rowlock/rowlocklaw06.EpochCopies", spec := "epochCopies", inPlace := ["maps.clone", "internal/reflectlite.ValueOf", "(internal/reflectlite.Value).Type", "(internal/reflectlite.Value).IsNil", "internal/reflectlite.TypeOf", "(internal/reflectlite.Value).Elem", "(internal/reflectlite.Value).Set"], unfollowed := true, recurses := true, named := ["errors.errorType"], apart := false, laid := [("errors.errorType", laid_errors_errorType)] }
def EpochCopiesSaid : Prop := epochCopiesRow.holds Tryd.pinned (OpenSpec.ofChange epochCopiesSpec)

/-- ITS FALSE NEIGHBOUR: 'it returns false'. Refute it at one input. -/
def epochCopiesWrong : ChangeSpec := { name := "epochCopies", fn := fun _ => fun
  | [d1, d2, d3, d4] => { results := [.lit (.bool false)], args := [d1, d2, d3, d4] }
  | _ => none }
def EpochCopiesWrongFalsely : Prop := epochCopiesRow.holds Tryd.pinned (OpenSpec.ofChange epochCopiesWrong)

/-- 'rowlocklaw06.EpochRises': WHATEVER THE INPUT: true; the input reads as it did. -/
def epochRisesSpec : ChangeSpec := { name := "epochRises", fn := fun _ => fun
  | [d1, d2, d3] => { results := [.lit (.bool true)], args := [d1, d2, d3] }
  | _ => none }
def epochRisesRow : OpenClaim := { program := "ytocigedgicgonaadoor", sum := "8f5557bed586e42a6cae8607cd8bc61bf2ee00e1b8d6b9b0b53a97ff2cde4177", func := "rowlock/rowlocklaw06.EpochRises", spec := "epochRises", inPlace := ["internal/reflectlite.ValueOf", "(internal/reflectlite.Value).Type", "(internal/reflectlite.Value).IsNil", "internal/reflectlite.TypeOf", "(internal/reflectlite.Value).Elem", "(internal/reflectlite.Value).Set"], unfollowed := true, recurses := true, named := ["errors.errorType"], apart := false, laid := [("errors.errorType", laid_errors_errorType)] }
def EpochRisesSaid : Prop := epochRisesRow.holds Tryd.pinned (OpenSpec.ofChange epochRisesSpec)

/-- ITS FALSE NEIGHBOUR: 'it returns false'. Refute it at one input. -/
def epochRisesWrong : ChangeSpec := { name := "epochRises", fn := fun _ => fun
  | [d1, d2, d3] => { results := [.lit (.bool false)], args := [d1, d2, d3] }
  | _ => none }
def EpochRisesWrongFalsely : Prop := epochRisesRow.holds Tryd.pinned (OpenSpec.ofChange epochRisesWrong)

/-- 'rowlocklaw06.EpochEmpty': WHATEVER THE INPUT: true; the input reads as it did. -/
def epochEmptySpec : ChangeSpec := { name := "epochEmpty", fn := fun _ => fun
  | [d1, d2, d3] => { results := [.lit (.bool true)], args := [d1, d2, d3] }
  | _ => none }
def epochEmptyRow : OpenClaim := { program := "ytocigedgicgonaadoor", sum := "8f5557bed586e42a6cae8607cd8bc61bf2ee00e1b8d6b9b0b53a97ff2cde4177", func := "rowlock/rowlocklaw06.EpochEmpty", spec := "epochEmpty", inPlace := ["internal/reflectlite.ValueOf", "(internal/reflectlite.Value).Type", "(internal/reflectlite.Value).IsNil", "internal/reflectlite.TypeOf", "(internal/reflectlite.Value).Elem", "(internal/reflectlite.Value).Set"], unfollowed := true, recurses := true, named := ["errors.errorType"], apart := false, laid := [("errors.errorType", laid_errors_errorType)] }
def EpochEmptySaid : Prop := epochEmptyRow.holds Tryd.pinned (OpenSpec.ofChange epochEmptySpec)

/-- ITS FALSE NEIGHBOUR: 'it returns false'. Refute it at one input. -/
def epochEmptyWrong : ChangeSpec := { name := "epochEmpty", fn := fun _ => fun
  | [d1, d2, d3] => { results := [.lit (.bool false)], args := [d1, d2, d3] }
  | _ => none }
def EpochEmptyWrongFalsely : Prop := epochEmptyRow.holds Tryd.pinned (OpenSpec.ofChange epochEmptyWrong)

/-- 'rowlocklaw06.EpochLeast': WHATEVER THE INPUT: true; the input reads as it did. -/
def epochLeastSpec : ChangeSpec := { name := "epochLeast", fn := fun _ => fun
  | [d1, d2, d3] => { results := [.lit (.bool true)], args := [d1, d2, d3] }
  | _ => none }
def epochLeastRow : OpenClaim := { program := "ytocigedgicgonaadoor", sum := "8f5557bed586e42a6cae8607cd8bc61bf2ee00e1b8d6b9b0b53a97ff2cde4177", func := "rowlock/rowlocklaw06.EpochLeast", spec := "epochLeast", inPlace := ["internal/reflectlite.ValueOf", "(internal/reflectlite.Value).Type", "(internal/reflectlite.Value).IsNil", "internal/reflectlite.TypeOf", "(internal/reflectlite.Value).Elem", "(internal/reflectlite.Value).Set"], unfollowed := true, recurses := true, named := ["errors.errorType"], apart := false, laid := [("errors.errorType", laid_errors_errorType)] }
def EpochLeastSaid : Prop := epochLeastRow.holds Tryd.pinned (OpenSpec.ofChange epochLeastSpec)

/-- ITS FALSE NEIGHBOUR: 'it returns false'. Refute it at one input. -/
def epochLeastWrong : ChangeSpec := { name := "epochLeast", fn := fun _ => fun
  | [d1, d2, d3] => { results := [.lit (.bool false)], args := [d1, d2, d3] }
  | _ => none }
def EpochLeastWrongFalsely : Prop := epochLeastRow.holds Tryd.pinned (OpenSpec.ofChange epochLeastWrong)

/- THE SECOND FORM. 'bulk': how many values and letters a reading holds, each counted each time it is reached (what is shared counts as often as it is met; a slice's spare places count too). A statement '..UptoSaid' is the law's where the arguments, and the package variables that the reading takes, are together of bulk at most 1048576: NARROWER than '..Said'. Prove '..Said' where nothing that the law and all that it calls make is longer than what came in: it says more and counts as full. Else prove '..UptoSaid'. A law counts once. -/
mutual
def uptoBulk {H : Type} : DataW H → Nat
  | .lit (.string bytes) => bytes.length + 1
  | .lit _ => 1
  | .nil => 1
  | .ptr d => uptoBulk d + 1
  | .slice elems spare => uptoBulkAll elems + uptoBulkAll spare + 1
  | .agg parts => uptoBulkAll parts + 1
  | .iface _ d => uptoBulk d + 1
  | .map entries => uptoBulkEntries entries + 1
  | .held _ => 1
def uptoBulkAll {H : Type} : List (DataW H) → Nat
  | [] => 0
  | d :: r => uptoBulk d + uptoBulkAll r
def uptoBulkEntries {H : Type} : List (Lit × DataW H) → Nat
  | [] => 0
  | x :: r => uptoBulkEntry x + uptoBulkEntries r
def uptoBulkEntry {H : Type} : Lit × DataW H → Nat
  | (.string bytes, d) => bytes.length + uptoBulk d + 1
  | (_, d) => uptoBulk d + 1
 end
def uptoSmall : (H : Type) → List (DataW H) → Bool := fun _ ds => decide (uptoBulkAll ds ≤ 1048576)
def OpenSpec.upto (s : _root_.Go.ChangeSpec) : _root_.Go.OpenSpec := { _root_.Go.OpenSpec.ofChange s with cond := some uptoSmall }

/-- 'rowlocklaw06.EpochPlays', WHERE WHAT IT READS IS OF BULK AT MOST 1048576: true; the input reads as it did. -/
def epochPlaysUptoRow : OpenClaim := { program := "ytocigedgicgonaadoor", sum := "8f5557bed586e42a6cae8607cd8bc61bf2ee00e1b8d6b9b0b53a97ff2cde4177", func := "rowlock/rowlocklaw06.EpochPlays", spec := "epochPlays", inPlace := ["internal/reflectlite.ValueOf", "(internal/reflectlite.Value).Type", "(internal/reflectlite.Value).IsNil", "internal/reflectlite.TypeOf", "(internal/reflectlite.Value).Elem", "(internal/reflectlite.Value).Set"], unfollowed := true, recurses := true, named := ["errors.errorType"], apart := false, laid := [("errors.errorType", laid_errors_errorType)], narrowed := true }
def EpochPlaysUptoSaid : Prop := epochPlaysUptoRow.holds Tryd.pinned (OpenSpec.upto epochPlaysSpec)

/-- 'rowlocklaw06.EpochGuards', WHERE WHAT IT READS IS OF BULK AT MOST 1048576: true; the input reads as it did. -/
def epochGuardsUptoRow : OpenClaim := { program := "ytocigedgicgonaadoor", sum := "8f5557bed586e42a6cae8607cd8bc61bf2ee00e1b8d6b9b0b53a97ff2cde4177", func := "rowlock/rowlocklaw06.EpochGuards", spec := "epochGuards", inPlace := ["internal/reflectlite.ValueOf", "(internal/reflectlite.Value).Type", "(internal/reflectlite.Value).IsNil", "internal/reflectlite.TypeOf", "(internal/reflectlite.Value).Elem", "(internal/reflectlite.Value).Set"], unfollowed := true, recurses := true, named := ["errors.errorType"], apart := false, laid := [("errors.errorType", laid_errors_errorType)], narrowed := true }
def EpochGuardsUptoSaid : Prop := epochGuardsUptoRow.holds Tryd.pinned (OpenSpec.upto epochGuardsSpec)

/-- 'rowlocklaw06.EpochCopies', WHERE WHAT IT READS IS OF BULK AT MOST 1048576: true; the input reads as it did. -/
def epochCopiesUptoRow : OpenClaim := { program := "ytocigedgicgonaadoor", sum := "8f5557bed586e42a6cae8607cd8bc61bf2ee00e1b8d6b9b0b53a97ff2cde4177", func := "rowlock/rowlocklaw06.EpochCopies", spec := "epochCopies", inPlace := ["maps.clone", "internal/reflectlite.ValueOf", "(internal/reflectlite.Value).Type", "(internal/reflectlite.Value).IsNil", "internal/reflectlite.TypeOf", "(internal/reflectlite.Value).Elem", "(internal/reflectlite.Value).Set"], unfollowed := true, recurses := true, named := ["errors.errorType"], apart := false, laid := [("errors.errorType", laid_errors_errorType)], narrowed := true }
def EpochCopiesUptoSaid : Prop := epochCopiesUptoRow.holds Tryd.pinned (OpenSpec.upto epochCopiesSpec)

/-- 'rowlocklaw06.EpochRises', WHERE WHAT IT READS IS OF BULK AT MOST 1048576: true; the input reads as it did. -/
def epochRisesUptoRow : OpenClaim := { program := "ytocigedgicgonaadoor", sum := "8f5557bed586e42a6cae8607cd8bc61bf2ee00e1b8d6b9b0b53a97ff2cde4177", func := "rowlock/rowlocklaw06.EpochRises", spec := "epochRises", inPlace := ["internal/reflectlite.ValueOf", "(internal/reflectlite.Value).Type", "(internal/reflectlite.Value).IsNil", "internal/reflectlite.TypeOf", "(internal/reflectlite.Value).Elem", "(internal/reflectlite.Value).Set"], unfollowed := true, recurses := true, named := ["errors.errorType"], apart := false, laid := [("errors.errorType", laid_errors_errorType)], narrowed := true }
def EpochRisesUptoSaid : Prop := epochRisesUptoRow.holds Tryd.pinned (OpenSpec.upto epochRisesSpec)

/-- 'rowlocklaw06.EpochEmpty', WHERE WHAT IT READS IS OF BULK AT MOST 1048576: true; the input reads as it did. -/
def epochEmptyUptoRow : OpenClaim := { program := "ytocigedgicgonaadoor", sum := "8f5557bed586e42a6cae8607cd8bc61bf2ee00e1b8d6b9b0b53a97ff2cde4177", func := "rowlock/rowlocklaw06.EpochEmpty", spec := "epochEmpty", inPlace := ["internal/reflectlite.ValueOf", "(internal/reflectlite.Value).Type", "(internal/reflectlite.Value).IsNil", "internal/reflectlite.TypeOf", "(internal/reflectlite.Value).Elem", "(internal/reflectlite.Value).Set"], unfollowed := true, recurses := true, named := ["errors.errorType"], apart := false, laid := [("errors.errorType", laid_errors_errorType)], narrowed := true }
def EpochEmptyUptoSaid : Prop := epochEmptyUptoRow.holds Tryd.pinned (OpenSpec.upto epochEmptySpec)

/-- 'rowlocklaw06.EpochLeast', WHERE WHAT IT READS IS OF BULK AT MOST 1048576: true; the input reads as it did. -/
def epochLeastUptoRow : OpenClaim := { program := "ytocigedgicgonaadoor", sum := "8f5557bed586e42a6cae8607cd8bc61bf2ee00e1b8d6b9b0b53a97ff2cde4177", func := "rowlock/rowlocklaw06.EpochLeast", spec := "epochLeast", inPlace := ["internal/reflectlite.ValueOf", "(internal/reflectlite.Value).Type", "(internal/reflectlite.Value).IsNil", "internal/reflectlite.TypeOf", "(internal/reflectlite.Value).Elem", "(internal/reflectlite.Value).Set"], unfollowed := true, recurses := true, named := ["errors.errorType"], apart := false, laid := [("errors.errorType", laid_errors_errorType)], narrowed := true }
def EpochLeastUptoSaid : Prop := epochLeastUptoRow.holds Tryd.pinned (OpenSpec.upto epochLeastSpec)

end Rows
end Go.Proofs.YtocigedgicgonaaDoor
