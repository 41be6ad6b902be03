/-
  No cell of these rows narrows 'for every input' (looked for: loops, veiled, ifaces, maps, wideKeys, modest, calm, conditions, laid).
  DERIVED. THE GIVEN ROWS OF THIS SEAT. 3 by the template 'for every input the law returns true; each argument reads behind the call as it read before'; 0 by the template 'total and deterministic' (their statements: YtfdgfonffocenaaTotals.lean).
  GIVEN WITH THE SEED: the statements are not yours to turn. If you find one false, say at which input.
  Laid BY PROGRAM, IN A SANDBOX (cutbox-rows.mjs): the forced cells as the released guide's own fill.sh prints them over the translation 2070fedc1164fb0c… (all of the seat's roots in one cut). By AI agents, Wed Nov 11 2026. No macro, syntax, notation, axiom, sorry.
-/
import Derived.Test.YtfdgfonffocenaaChecked
import GoSem.Claim
import GoSem.ClaimJoined
import GoSem.ClaimMapViews
import Derived.JoinedTies
import Derived.KernelRfl
namespace Go.Proofs.Ytfdgfonffocenaa
/- THE CELL 'sum', in the pinned program and in every row, IS THE sha256 OF THE DUMP (.gsa) THAT YtfdgfonffocenaaProg.lean LOADS. Nothing in Lean hashes anything: it is a label: what it is worth is what the hold of that sum in a sandbox is worth. -/
noncomputable def Try.pinned : Pinned := { name := "ytfdgfonffocenaa", sum := "2070fedc1164fb0ca4e63e9003feab65f8c2c0a00129dca33f79d4ee05c81322", checked := Try.checked }
namespace Rows
def none {H : Type} : Left H := { results := [], args := [] }

/-- 'rowlocklaw05.MappingFirst': WHATEVER THE INPUT: true; the input reads as it did. -/
def mappingFirstSpec : ChangeSpec := { name := "mappingFirst", fn := fun _ => fun
  | [d1, d2, d3] => { results := [.lit (.bool true)], args := [d1, d2, d3] }
  | _ => none }
def mappingFirstRow : OpenClaim := { program := "ytfdgfonffocenaa", sum := "2070fedc1164fb0ca4e63e9003feab65f8c2c0a00129dca33f79d4ee05c81322", func := "rowlock/rowlocklaw05.MappingFirst", spec := "mappingFirst", apart := false }
def MappingFirstSaid : Prop := mappingFirstRow.holds Try.pinned (OpenSpec.ofChange mappingFirstSpec)

/-- ITS FALSE NEIGHBOUR: 'it returns false'. Refute it at one input. -/
def mappingFirstWrong : ChangeSpec := { name := "mappingFirst", fn := fun _ => fun
  | [d1, d2, d3] => { results := [.lit (.bool false)], args := [d1, d2, d3] }
  | _ => none }
def MappingFirstWrongFalsely : Prop := mappingFirstRow.holds Try.pinned (OpenSpec.ofChange mappingFirstWrong)

/-- 'rowlocklaw05.MappingFills': WHATEVER THE INPUT: true; the input reads as it did. -/
def mappingFillsSpec : ChangeSpec := { name := "mappingFills", fn := fun _ => fun
  | [d1, d2] => { results := [.lit (.bool true)], args := [d1, d2] }
  | _ => none }
def mappingFillsRow : OpenClaim := { program := "ytfdgfonffocenaa", sum := "2070fedc1164fb0ca4e63e9003feab65f8c2c0a00129dca33f79d4ee05c81322", func := "rowlock/rowlocklaw05.MappingFills", spec := "mappingFills", inPlace := ["internal/reflectlite.TypeOf"], unfollowed := true, recurses := true, apart := false }
def MappingFillsSaid : Prop := mappingFillsRow.holds Try.pinned (OpenSpec.ofChange mappingFillsSpec)

/-- ITS FALSE NEIGHBOUR: 'it returns false'. Refute it at one input. -/
def mappingFillsWrong : ChangeSpec := { name := "mappingFills", fn := fun _ => fun
  | [d1, d2] => { results := [.lit (.bool false)], args := [d1, d2] }
  | _ => none }
def MappingFillsWrongFalsely : Prop := mappingFillsRow.holds Try.pinned (OpenSpec.ofChange mappingFillsWrong)

/-- 'rowlocklaw05.MappingNobody': WHATEVER THE INPUT: true; the input reads as it did. -/
def mappingNobodySpec : ChangeSpec := { name := "mappingNobody", fn := fun _ => fun
  | [d] => { results := [.lit (.bool true)], args := [d] }
  | _ => none }
def mappingNobodyRow : OpenClaim := { program := "ytfdgfonffocenaa", sum := "2070fedc1164fb0ca4e63e9003feab65f8c2c0a00129dca33f79d4ee05c81322", func := "rowlock/rowlocklaw05.MappingNobody", spec := "mappingNobody", inPlace := ["internal/reflectlite.TypeOf"], unfollowed := true, recurses := true, apart := false }
def MappingNobodySaid : Prop := mappingNobodyRow.holds Try.pinned (OpenSpec.ofChange mappingNobodySpec)

/-- ITS FALSE NEIGHBOUR: 'it returns false'. Refute it at one input. -/
def mappingNobodyWrong : ChangeSpec := { name := "mappingNobody", fn := fun _ => fun
  | [d] => { results := [.lit (.bool false)], args := [d] }
  | _ => none }
def MappingNobodyWrongFalsely : Prop := mappingNobodyRow.holds Try.pinned (OpenSpec.ofChange mappingNobodyWrong)

/- THE SECOND FORM. 'bulk': how many values and letters a reading holds, each counted each time it is reached (what is shared counts as often as it is met; a slice's spare places count too). A statement '..UptoSaid' is the law's where the arguments, and the package variables that the reading takes, are together of bulk at most 1048576: NARROWER than '..Said'. Prove '..Said' where nothing that the law and all that it calls make is longer than what came in: it says more and counts as full. Else prove '..UptoSaid'. A law counts once. -/
mutual
def uptoBulk {H : Type} : DataW H → Nat
  | .lit (.string bytes) => bytes.length + 1
  | .lit _ => 1
  | .nil => 1
  | .ptr d => uptoBulk d + 1
  | .slice elems spare => uptoBulkAll elems + uptoBulkAll spare + 1
  | .agg parts => uptoBulkAll parts + 1
  | .iface _ d => uptoBulk d + 1
  | .map entries => uptoBulkEntries entries + 1
  | .held _ => 1
def uptoBulkAll {H : Type} : List (DataW H) → Nat
  | [] => 0
  | d :: r => uptoBulk d + uptoBulkAll r
def uptoBulkEntries {H : Type} : List (Lit × DataW H) → Nat
  | [] => 0
  | x :: r => uptoBulkEntry x + uptoBulkEntries r
def uptoBulkEntry {H : Type} : Lit × DataW H → Nat
  | (.string bytes, d) => bytes.length + uptoBulk d + 1
  | (_, d) => uptoBulk d + 1
 end
def uptoSmall : (H : Type) → List (DataW H) → Bool := fun _ ds => decide (uptoBulkAll ds ≤ 1048576)
def OpenSpec.upto (s : _root_.Go.ChangeSpec) : _root_.Go.OpenSpec := { _root_.Go.OpenSpec.ofChange s with cond := some uptoSmall }

/-- 'rowlocklaw05.MappingFirst', WHERE WHAT IT READS IS OF BULK AT MOST 1048576: true; the input reads as it did. -/
def mappingFirstUptoRow : OpenClaim := { program := "ytfdgfonffocenaa", sum := "2070fedc1164fb0ca4e63e9003feab65f8c2c0a00129dca33f79d4ee05c81322", func := "rowlock/rowlocklaw05.MappingFirst", spec := "mappingFirst", apart := false, narrowed := true }
def MappingFirstUptoSaid : Prop := mappingFirstUptoRow.holds Try.pinned (OpenSpec.upto mappingFirstSpec)

/-- 'rowlocklaw05.MappingFills', WHERE WHAT IT READS IS OF BULK AT MOST 1048576: true; the input reads as it did. -/
def mappingFillsUptoRow : OpenClaim := { program := "ytfdgfonffocenaa", sum := "2070fedc1164fb0ca4e63e9003feab65f8c2c0a00129dca33f79d4ee05c81322", func := "rowlock/rowlocklaw05.MappingFills", spec := "mappingFills", inPlace := ["internal/reflectlite.TypeOf"], unfollowed := true, recurses := true, apart := false, narrowed := true }
def MappingFillsUptoSaid : Prop := mappingFillsUptoRow.holds Try.pinned (OpenSpec.upto mappingFillsSpec)

/-- 'rowlocklaw05.MappingNobody', WHERE WHAT IT READS IS OF BULK AT MOST 1048576: true; the input reads as it did. -/
def mappingNobodyUptoRow : OpenClaim := { program := "ytfdgfonffocenaa", sum := "2070fedc1164fb0ca4e63e9003feab65f8c2c0a00129dca33f79d4ee05c81322", func := "rowlock/rowlocklaw05.MappingNobody", spec := "mappingNobody", inPlace := ["internal/reflectlite.TypeOf"], unfollowed := true, recurses := true, apart := false, narrowed := true }
def MappingNobodyUptoSaid : Prop := mappingNobodyUptoRow.holds Try.pinned (OpenSpec.upto mappingNobodySpec)

end Rows
end Go.Proofs.Ytfdgfonffocenaa
