/-
  No cell of these rows narrows 'for every input' (looked for: loops, veiled, ifaces, maps, wideKeys, modest, calm, conditions, laid).
  DERIVED. THE GIVEN ROWS OF THIS SEAT. 8 by the template 'for every input the law returns true; each argument reads behind the call as it read before'; 0 by the template 'total and deterministic' (their statements: YtaaikmompiejdaaTotals.lean).
  GIVEN WITH THE SEED: the statements are not yours to turn. If you find one false, say at which input.
  Laid BY PROGRAM, IN A SANDBOX (cutbox-rows.mjs): the forced cells as the released guide's own fill.sh prints them over the translation 8350de9dea2160b5… (all of the seat's roots in one cut). By AI agents, Wed Nov 11 2026. No macro, syntax, notation, axiom, sorry.
-/
import Derived.Test.YtaaikmompiejdaaChecked
import GoSem.Claim
import GoSem.ClaimJoined
import GoSem.ClaimMapViews
import Derived.JoinedTies
import Derived.KernelRfl
namespace Go.Proofs.Ytaaikmompiejdaa
/- THE CELL 'sum', in the pinned program and in every row, IS THE sha256 OF THE DUMP (.gsa) THAT YtaaikmompiejdaaProg.lean LOADS. Nothing in Lean hashes anything: it is a label: what it is worth is what the hold of that sum in a sandbox is worth. -/
noncomputable def Try.pinned : Pinned := { name := "ytaaikmompiejdaa", sum := "8350de9dea2160b5cf9537ad0a1ada0597f383f166427f7bebb30b85aa0b0dd3", checked := Try.checked }
namespace Rows
def none {H : Type} : Left H := { results := [], args := [] }

/-- 'rowlocklaw03.RowsFinds': WHATEVER THE INPUT: true; the input reads as it did. -/
def rowsFindsSpec : ChangeSpec := { name := "rowsFinds", fn := fun _ => fun
  | [d1, d2] => { results := [.lit (.bool true)], args := [d1, d2] }
  | _ => none }
def rowsFindsRow : OpenClaim := { program := "ytaaikmompiejdaa", sum := "8350de9dea2160b5cf9537ad0a1ada0597f383f166427f7bebb30b85aa0b0dd3", func := "rowlock/rowlocklaw03.RowsFinds", spec := "rowsFinds", inPlace := ["internal/bytealg.abigen_runtime_cmpstring"], apart := false }
def RowsFindsSaid : Prop := rowsFindsRow.holds Try.pinned (OpenSpec.ofChange rowsFindsSpec)

/-- ITS FALSE NEIGHBOUR: 'it returns false'. Refute it at one input. -/
def rowsFindsWrong : ChangeSpec := { name := "rowsFinds", fn := fun _ => fun
  | [d1, d2] => { results := [.lit (.bool false)], args := [d1, d2] }
  | _ => none }
def RowsFindsWrongFalsely : Prop := rowsFindsRow.holds Try.pinned (OpenSpec.ofChange rowsFindsWrong)

/-- 'rowlocklaw03.RowsPuts': WHATEVER THE INPUT: true; the input reads as it did. -/
def rowsPutsSpec : ChangeSpec := { name := "rowsPuts", fn := fun _ => fun
  | [d1, d2] => { results := [.lit (.bool true)], args := [d1, d2] }
  | _ => none }
def rowsPutsRow : OpenClaim := { program := "ytaaikmompiejdaa", sum := "8350de9dea2160b5cf9537ad0a1ada0597f383f166427f7bebb30b85aa0b0dd3", func := "rowlock/rowlocklaw03.RowsPuts", spec := "rowsPuts", inPlace := ["internal/bytealg.abigen_runtime_cmpstring", "internal/reflectlite.TypeOf"], unfollowed := true, recurses := true, apart := false }
def RowsPutsSaid : Prop := rowsPutsRow.holds Try.pinned (OpenSpec.ofChange rowsPutsSpec)

/-- ITS FALSE NEIGHBOUR: 'it returns false'. Refute it at one input. -/
def rowsPutsWrong : ChangeSpec := { name := "rowsPuts", fn := fun _ => fun
  | [d1, d2] => { results := [.lit (.bool false)], args := [d1, d2] }
  | _ => none }
def RowsPutsWrongFalsely : Prop := rowsPutsRow.holds Try.pinned (OpenSpec.ofChange rowsPutsWrong)

/-- 'rowlocklaw03.RowsParts': WHATEVER THE INPUT: true; the input reads as it did. -/
def rowsPartsSpec : ChangeSpec := { name := "rowsParts", fn := fun _ => fun
  | [d1, d2, d3] => { results := [.lit (.bool true)], args := [d1, d2, d3] }
  | _ => none }
def rowsPartsRow : OpenClaim := { program := "ytaaikmompiejdaa", sum := "8350de9dea2160b5cf9537ad0a1ada0597f383f166427f7bebb30b85aa0b0dd3", func := "rowlock/rowlocklaw03.RowsParts", spec := "rowsParts", inPlace := ["internal/bytealg.abigen_runtime_cmpstring", "internal/reflectlite.TypeOf"], unfollowed := true, recurses := true, apart := false }
def RowsPartsSaid : Prop := rowsPartsRow.holds Try.pinned (OpenSpec.ofChange rowsPartsSpec)

/-- ITS FALSE NEIGHBOUR: 'it returns false'. Refute it at one input. -/
def rowsPartsWrong : ChangeSpec := { name := "rowsParts", fn := fun _ => fun
  | [d1, d2, d3] => { results := [.lit (.bool false)], args := [d1, d2, d3] }
  | _ => none }
def RowsPartsWrongFalsely : Prop := rowsPartsRow.holds Try.pinned (OpenSpec.ofChange rowsPartsWrong)

/-- 'rowlocklaw03.RowsTakes': WHATEVER THE INPUT: true; the input reads as it did. -/
def rowsTakesSpec : ChangeSpec := { name := "rowsTakes", fn := fun _ => fun
  | [d1, d2, d3, d4] => { results := [.lit (.bool true)], args := [d1, d2, d3, d4] }
  | _ => none }
def rowsTakesRow : OpenClaim := { program := "ytaaikmompiejdaa", sum := "8350de9dea2160b5cf9537ad0a1ada0597f383f166427f7bebb30b85aa0b0dd3", func := "rowlock/rowlocklaw03.RowsTakes", spec := "rowsTakes", inPlace := ["internal/bytealg.abigen_runtime_cmpstring"], unfollowed := true, recurses := true, apart := false }
def RowsTakesSaid : Prop := rowsTakesRow.holds Try.pinned (OpenSpec.ofChange rowsTakesSpec)

/-- ITS FALSE NEIGHBOUR: 'it returns false'. Refute it at one input. -/
def rowsTakesWrong : ChangeSpec := { name := "rowsTakes", fn := fun _ => fun
  | [d1, d2, d3, d4] => { results := [.lit (.bool false)], args := [d1, d2, d3, d4] }
  | _ => none }
def RowsTakesWrongFalsely : Prop := rowsTakesRow.holds Try.pinned (OpenSpec.ofChange rowsTakesWrong)

/-- 'rowlocklaw03.RowsKeeps': WHATEVER THE INPUT: true; the input reads as it did. -/
def rowsKeepsSpec : ChangeSpec := { name := "rowsKeeps", fn := fun _ => fun
  | [d1, d2, d3] => { results := [.lit (.bool true)], args := [d1, d2, d3] }
  | _ => none }
def rowsKeepsRow : OpenClaim := { program := "ytaaikmompiejdaa", sum := "8350de9dea2160b5cf9537ad0a1ada0597f383f166427f7bebb30b85aa0b0dd3", func := "rowlock/rowlocklaw03.RowsKeeps", spec := "rowsKeeps", inPlace := ["internal/bytealg.abigen_runtime_cmpstring"], apart := false }
def RowsKeepsSaid : Prop := rowsKeepsRow.holds Try.pinned (OpenSpec.ofChange rowsKeepsSpec)

/-- ITS FALSE NEIGHBOUR: 'it returns false'. Refute it at one input. -/
def rowsKeepsWrong : ChangeSpec := { name := "rowsKeeps", fn := fun _ => fun
  | [d1, d2, d3] => { results := [.lit (.bool false)], args := [d1, d2, d3] }
  | _ => none }
def RowsKeepsWrongFalsely : Prop := rowsKeepsRow.holds Try.pinned (OpenSpec.ofChange rowsKeepsWrong)

/-- 'rowlocklaw03.RowsJoins': WHATEVER THE INPUT: true; the input reads as it did. -/
def rowsJoinsSpec : ChangeSpec := { name := "rowsJoins", fn := fun _ => fun
  | [d1, d2] => { results := [.lit (.bool true)], args := [d1, d2] }
  | _ => none }
def rowsJoinsRow : OpenClaim := { program := "ytaaikmompiejdaa", sum := "8350de9dea2160b5cf9537ad0a1ada0597f383f166427f7bebb30b85aa0b0dd3", func := "rowlock/rowlocklaw03.RowsJoins", spec := "rowsJoins", inPlace := ["internal/bytealg.abigen_runtime_cmpstring"], apart := false }
def RowsJoinsSaid : Prop := rowsJoinsRow.holds Try.pinned (OpenSpec.ofChange rowsJoinsSpec)

/-- ITS FALSE NEIGHBOUR: 'it returns false'. Refute it at one input. -/
def rowsJoinsWrong : ChangeSpec := { name := "rowsJoins", fn := fun _ => fun
  | [d1, d2] => { results := [.lit (.bool false)], args := [d1, d2] }
  | _ => none }
def RowsJoinsWrongFalsely : Prop := rowsJoinsRow.holds Try.pinned (OpenSpec.ofChange rowsJoinsWrong)

/-- 'rowlocklaw03.RowsTurns': WHATEVER THE INPUT: true; the input reads as it did. -/
def rowsTurnsSpec : ChangeSpec := { name := "rowsTurns", fn := fun _ => fun
  | [d1, d2, d3] => { results := [.lit (.bool true)], args := [d1, d2, d3] }
  | _ => none }
def rowsTurnsRow : OpenClaim := { program := "ytaaikmompiejdaa", sum := "8350de9dea2160b5cf9537ad0a1ada0597f383f166427f7bebb30b85aa0b0dd3", func := "rowlock/rowlocklaw03.RowsTurns", spec := "rowsTurns", inPlace := ["internal/bytealg.abigen_runtime_cmpstring"], unfollowed := true, recurses := true, apart := false }
def RowsTurnsSaid : Prop := rowsTurnsRow.holds Try.pinned (OpenSpec.ofChange rowsTurnsSpec)

/-- ITS FALSE NEIGHBOUR: 'it returns false'. Refute it at one input. -/
def rowsTurnsWrong : ChangeSpec := { name := "rowsTurns", fn := fun _ => fun
  | [d1, d2, d3] => { results := [.lit (.bool false)], args := [d1, d2, d3] }
  | _ => none }
def RowsTurnsWrongFalsely : Prop := rowsTurnsRow.holds Try.pinned (OpenSpec.ofChange rowsTurnsWrong)

/-- 'rowlocklaw03.RowsCuts': WHATEVER THE INPUT: true; the input reads as it did. -/
def rowsCutsSpec : ChangeSpec := { name := "rowsCuts", fn := fun _ => fun
  | [d1, d2] => { results := [.lit (.bool true)], args := [d1, d2] }
  | _ => none }
def rowsCutsRow : OpenClaim := { program := "ytaaikmompiejdaa", sum := "8350de9dea2160b5cf9537ad0a1ada0597f383f166427f7bebb30b85aa0b0dd3", func := "rowlock/rowlocklaw03.RowsCuts", spec := "rowsCuts", inPlace := ["internal/bytealg.abigen_runtime_cmpstring"], unfollowed := true, recurses := true, apart := false }
def RowsCutsSaid : Prop := rowsCutsRow.holds Try.pinned (OpenSpec.ofChange rowsCutsSpec)

/-- ITS FALSE NEIGHBOUR: 'it returns false'. Refute it at one input. -/
def rowsCutsWrong : ChangeSpec := { name := "rowsCuts", fn := fun _ => fun
  | [d1, d2] => { results := [.lit (.bool false)], args := [d1, d2] }
  | _ => none }
def RowsCutsWrongFalsely : Prop := rowsCutsRow.holds Try.pinned (OpenSpec.ofChange rowsCutsWrong)

/- THE SECOND FORM. 'bulk': how many values and letters a reading holds, each counted each time it is reached (what is shared counts as often as it is met; a slice's spare places count too). A statement '..UptoSaid' is the law's where the arguments, and the package variables that the reading takes, are together of bulk at most 1048576: NARROWER than '..Said'. Prove '..Said' where nothing that the law and all that it calls make is longer than what came in: it says more and counts as full. Else prove '..UptoSaid'. A law counts once. -/
mutual
def uptoBulk {H : Type} : DataW H → Nat
  | .lit (.string bytes) => bytes.length + 1
  | .lit _ => 1
  | .nil => 1
  | .ptr d => uptoBulk d + 1
  | .slice elems spare => uptoBulkAll elems + uptoBulkAll spare + 1
  | .agg parts => uptoBulkAll parts + 1
  | .iface _ d => uptoBulk d + 1
  | .map entries => uptoBulkEntries entries + 1
  | .held _ => 1
def uptoBulkAll {H : Type} : List (DataW H) → Nat
  | [] => 0
  | d :: r => uptoBulk d + uptoBulkAll r
def uptoBulkEntries {H : Type} : List (Lit × DataW H) → Nat
  | [] => 0
  | x :: r => uptoBulkEntry x + uptoBulkEntries r
def uptoBulkEntry {H : Type} : Lit × DataW H → Nat
  | (.string bytes, d) => bytes.length + uptoBulk d + 1
  | (_, d) => uptoBulk d + 1
 end
def uptoSmall : (H : Type) → List (DataW H) → Bool := fun _ ds => decide (uptoBulkAll ds ≤ 1048576)
def OpenSpec.upto (s : _root_.Go.ChangeSpec) : _root_.Go.OpenSpec := { _root_.Go.OpenSpec.ofChange s with cond := some uptoSmall }

/-- 'rowlocklaw03.RowsFinds', WHERE WHAT IT READS IS OF BULK AT MOST 1048576: true; the input reads as it did. -/
def rowsFindsUptoRow : OpenClaim := { program := "ytaaikmompiejdaa", sum := "8350de9dea2160b5cf9537ad0a1ada0597f383f166427f7bebb30b85aa0b0dd3", func := "rowlock/rowlocklaw03.RowsFinds", spec := "rowsFinds", inPlace := ["internal/bytealg.abigen_runtime_cmpstring"], apart := false, narrowed := true }
def RowsFindsUptoSaid : Prop := rowsFindsUptoRow.holds Try.pinned (OpenSpec.upto rowsFindsSpec)

/-- 'rowlocklaw03.RowsPuts', WHERE WHAT IT READS IS OF BULK AT MOST 1048576: true; the input reads as it did. -/
def rowsPutsUptoRow : OpenClaim := { program := "ytaaikmompiejdaa", sum := "8350de9dea2160b5cf9537ad0a1ada0597f383f166427f7bebb30b85aa0b0dd3", func := "rowlock/rowlocklaw03.RowsPuts", spec := "rowsPuts", inPlace := ["internal/bytealg.abigen_runtime_cmpstring", "internal/reflectlite.TypeOf"], unfollowed := true, recurses := true, apart := false, narrowed := true }
def RowsPutsUptoSaid : Prop := rowsPutsUptoRow.holds Try.pinned (OpenSpec.upto rowsPutsSpec)

/-- 'rowlocklaw03.RowsParts', WHERE WHAT IT READS IS OF BULK AT MOST 1048576: true; the input reads as it did. -/
def rowsPartsUptoRow : OpenClaim := { program := "ytaaikmompiejdaa", sum := "8350de9dea2160b5cf9537ad0a1ada0597f383f166427f7bebb30b85aa0b0dd3", func := "rowlock/rowlocklaw03.RowsParts", spec := "rowsParts", inPlace := ["internal/bytealg.abigen_runtime_cmpstring", "internal/reflectlite.TypeOf"], unfollowed := true, recurses := true, apart := false, narrowed := true }
def RowsPartsUptoSaid : Prop := rowsPartsUptoRow.holds Try.pinned (OpenSpec.upto rowsPartsSpec)

/-- 'rowlocklaw03.RowsTakes', WHERE WHAT IT READS IS OF BULK AT MOST 1048576: true; the input reads as it did. -/
def rowsTakesUptoRow : OpenClaim := { program := "ytaaikmompiejdaa", sum := "8350de9dea2160b5cf9537ad0a1ada0597f383f166427f7bebb30b85aa0b0dd3", func := "rowlock/rowlocklaw03.RowsTakes", spec := "rowsTakes", inPlace := ["internal/bytealg.abigen_runtime_cmpstring"], unfollowed := true, recurses := true, apart := false, narrowed := true }
def RowsTakesUptoSaid : Prop := rowsTakesUptoRow.holds Try.pinned (OpenSpec.upto rowsTakesSpec)

/-- 'rowlocklaw03.RowsKeeps', WHERE WHAT IT READS IS OF BULK AT MOST 1048576: true; the input reads as it did. -/
def rowsKeepsUptoRow : OpenClaim := { program := "ytaaikmompiejdaa", sum := "8350de9dea2160b5cf9537ad0a1ada0597f383f166427f7bebb30b85aa0b0dd3", func := "rowlock/rowlocklaw03.RowsKeeps", spec := "rowsKeeps", inPlace := ["internal/bytealg.abigen_runtime_cmpstring"], apart := false, narrowed := true }
def RowsKeepsUptoSaid : Prop := rowsKeepsUptoRow.holds Try.pinned (OpenSpec.upto rowsKeepsSpec)

/-- 'rowlocklaw03.RowsJoins', WHERE WHAT IT READS IS OF BULK AT MOST 1048576: true; the input reads as it did. -/
def rowsJoinsUptoRow : OpenClaim := { program := "ytaaikmompiejdaa", sum := "8350de9dea2160b5cf9537ad0a1ada0597f383f166427f7bebb30b85aa0b0dd3", func := "rowlock/rowlocklaw03.RowsJoins", spec := "rowsJoins", inPlace := ["internal/bytealg.abigen_runtime_cmpstring"], apart := false, narrowed := true }
def RowsJoinsUptoSaid : Prop := rowsJoinsUptoRow.holds Try.pinned (OpenSpec.upto rowsJoinsSpec)

/-- 'rowlocklaw03.RowsTurns', WHERE WHAT IT READS IS OF BULK AT MOST 1048576: true; the input reads as it did. -/
def rowsTurnsUptoRow : OpenClaim := { program := "ytaaikmompiejdaa", sum := "8350de9dea2160b5cf9537ad0a1ada0597f383f166427f7bebb30b85aa0b0dd3", func := "rowlock/rowlocklaw03.RowsTurns", spec := "rowsTurns", inPlace := ["internal/bytealg.abigen_runtime_cmpstring"], unfollowed := true, recurses := true, apart := false, narrowed := true }
def RowsTurnsUptoSaid : Prop := rowsTurnsUptoRow.holds Try.pinned (OpenSpec.upto rowsTurnsSpec)

/-- 'rowlocklaw03.RowsCuts', WHERE WHAT IT READS IS OF BULK AT MOST 1048576: true; the input reads as it did. -/
def rowsCutsUptoRow : OpenClaim := { program := "ytaaikmompiejdaa", sum := "8350de9dea2160b5cf9537ad0a1ada0597f383f166427f7bebb30b85aa0b0dd3", func := "rowlock/rowlocklaw03.RowsCuts", spec := "rowsCuts", inPlace := ["internal/bytealg.abigen_runtime_cmpstring"], unfollowed := true, recurses := true, apart := false, narrowed := true }
def RowsCutsUptoSaid : Prop := rowsCutsUptoRow.holds Try.pinned (OpenSpec.upto rowsCutsSpec)

end Rows
end Go.Proofs.Ytaaikmompiejdaa
