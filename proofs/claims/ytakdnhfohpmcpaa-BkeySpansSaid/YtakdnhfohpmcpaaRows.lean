/-
  No cell of these rows narrows 'for every input' (looked for: loops, veiled, ifaces, maps, wideKeys, modest, calm, conditions, laid).
  DERIVED. THE GIVEN ROWS OF THIS SEAT. 9 by the template 'for every input the law returns true; each argument reads behind the call as it read before'; 0 by the template 'total and deterministic' (their statements: YtakdnhfohpmcpaaTotals.lean).
  GIVEN WITH THE SEED: the statements are not yours to turn. If you find one false, say at which input.
  Laid BY PROGRAM, IN A SANDBOX (cutbox-rows.mjs): the forced cells as the released guide's own fill.sh prints them over the translation c4480e913991393d… (all of the seat's roots in one cut). By AI agents, Wed Nov 11 2026. No macro, syntax, notation, axiom, sorry.
-/
import Derived.Test.YtakdnhfohpmcpaaChecked
import GoSem.Claim
import GoSem.ClaimJoined
import GoSem.ClaimMapViews
import Derived.JoinedTies
import Derived.KernelRfl
namespace Go.Proofs.Ytakdnhfohpmcpaa
/- THE CELL 'sum', in the pinned program and in every row, IS THE sha256 OF THE DUMP (.gsa) THAT YtakdnhfohpmcpaaProg.lean LOADS. Nothing in Lean hashes anything: it is a label: what it is worth is what the hold of that sum in a sandbox is worth. -/
noncomputable def Try.pinned : Pinned := { name := "ytakdnhfohpmcpaa", sum := "c4480e913991393dd5275e45cee6fbdb5df99b8d9298103ff535de4010ea7a7b", checked := Try.checked }
namespace Rows
def none {H : Type} : Left H := { results := [], args := [] }

/-- 'rowlocklaw02.BkeyOrder': WHATEVER THE INPUT: true; the input reads as it did. -/
def bkeyOrderSpec : ChangeSpec := { name := "bkeyOrder", fn := fun _ => fun
  | [d1, d2] => { results := [.lit (.bool true)], args := [d1, d2] }
  | _ => none }
def bkeyOrderRow : OpenClaim := { program := "ytakdnhfohpmcpaa", sum := "c4480e913991393dd5275e45cee6fbdb5df99b8d9298103ff535de4010ea7a7b", func := "rowlock/rowlocklaw02.BkeyOrder", spec := "bkeyOrder", inPlace := ["internal/bytealg.abigen_runtime_cmpstring"], apart := false }
def BkeyOrderSaid : Prop := bkeyOrderRow.holds Try.pinned (OpenSpec.ofChange bkeyOrderSpec)

/-- ITS FALSE NEIGHBOUR: 'it returns false'. Refute it at one input. -/
def bkeyOrderWrong : ChangeSpec := { name := "bkeyOrder", fn := fun _ => fun
  | [d1, d2] => { results := [.lit (.bool false)], args := [d1, d2] }
  | _ => none }
def BkeyOrderWrongFalsely : Prop := bkeyOrderRow.holds Try.pinned (OpenSpec.ofChange bkeyOrderWrong)

/-- 'rowlocklaw02.BkeyLine': WHATEVER THE INPUT: true; the input reads as it did. -/
def bkeyLineSpec : ChangeSpec := { name := "bkeyLine", fn := fun _ => fun
  | [d1, d2, d3] => { results := [.lit (.bool true)], args := [d1, d2, d3] }
  | _ => none }
def bkeyLineRow : OpenClaim := { program := "ytakdnhfohpmcpaa", sum := "c4480e913991393dd5275e45cee6fbdb5df99b8d9298103ff535de4010ea7a7b", func := "rowlock/rowlocklaw02.BkeyLine", spec := "bkeyLine", inPlace := ["internal/bytealg.abigen_runtime_cmpstring"], apart := false }
def BkeyLineSaid : Prop := bkeyLineRow.holds Try.pinned (OpenSpec.ofChange bkeyLineSpec)

/-- ITS FALSE NEIGHBOUR: 'it returns false'. Refute it at one input. -/
def bkeyLineWrong : ChangeSpec := { name := "bkeyLine", fn := fun _ => fun
  | [d1, d2, d3] => { results := [.lit (.bool false)], args := [d1, d2, d3] }
  | _ => none }
def BkeyLineWrongFalsely : Prop := bkeyLineRow.holds Try.pinned (OpenSpec.ofChange bkeyLineWrong)

/-- 'rowlocklaw02.BkeyBetween': WHATEVER THE INPUT: true; the input reads as it did. -/
def bkeyBetweenSpec : ChangeSpec := { name := "bkeyBetween", fn := fun _ => fun
  | [d1, d2] => { results := [.lit (.bool true)], args := [d1, d2] }
  | _ => none }
def bkeyBetweenRow : OpenClaim := { program := "ytakdnhfohpmcpaa", sum := "c4480e913991393dd5275e45cee6fbdb5df99b8d9298103ff535de4010ea7a7b", func := "rowlock/rowlocklaw02.BkeyBetween", spec := "bkeyBetween", inPlace := ["internal/bytealg.abigen_runtime_cmpstring", "internal/reflectlite.TypeOf"], unfollowed := true, recurses := true, apart := false }
def BkeyBetweenSaid : Prop := bkeyBetweenRow.holds Try.pinned (OpenSpec.ofChange bkeyBetweenSpec)

/-- ITS FALSE NEIGHBOUR: 'it returns false'. Refute it at one input. -/
def bkeyBetweenWrong : ChangeSpec := { name := "bkeyBetween", fn := fun _ => fun
  | [d1, d2] => { results := [.lit (.bool false)], args := [d1, d2] }
  | _ => none }
def BkeyBetweenWrongFalsely : Prop := bkeyBetweenRow.holds Try.pinned (OpenSpec.ofChange bkeyBetweenWrong)

/-- 'rowlocklaw02.BkeyParts': WHATEVER THE INPUT: true; the input reads as it did. -/
def bkeyPartsSpec : ChangeSpec := { name := "bkeyParts", fn := fun _ => fun
  | [d1, d2] => { results := [.lit (.bool true)], args := [d1, d2] }
  | _ => none }
def bkeyPartsRow : OpenClaim := { program := "ytakdnhfohpmcpaa", sum := "c4480e913991393dd5275e45cee6fbdb5df99b8d9298103ff535de4010ea7a7b", func := "rowlock/rowlocklaw02.BkeyParts", spec := "bkeyParts", inPlace := ["internal/bytealg.abigen_runtime_cmpstring"], apart := false }
def BkeyPartsSaid : Prop := bkeyPartsRow.holds Try.pinned (OpenSpec.ofChange bkeyPartsSpec)

/-- ITS FALSE NEIGHBOUR: 'it returns false'. Refute it at one input. -/
def bkeyPartsWrong : ChangeSpec := { name := "bkeyParts", fn := fun _ => fun
  | [d1, d2] => { results := [.lit (.bool false)], args := [d1, d2] }
  | _ => none }
def BkeyPartsWrongFalsely : Prop := bkeyPartsRow.holds Try.pinned (OpenSpec.ofChange bkeyPartsWrong)

/-- 'rowlocklaw02.BkeyNext': WHATEVER THE INPUT: true; the input reads as it did. -/
def bkeyNextSpec : ChangeSpec := { name := "bkeyNext", fn := fun _ => fun
  | [d1, d2] => { results := [.lit (.bool true)], args := [d1, d2] }
  | _ => none }
def bkeyNextRow : OpenClaim := { program := "ytakdnhfohpmcpaa", sum := "c4480e913991393dd5275e45cee6fbdb5df99b8d9298103ff535de4010ea7a7b", func := "rowlock/rowlocklaw02.BkeyNext", spec := "bkeyNext", inPlace := ["internal/bytealg.abigen_runtime_cmpstring", "internal/reflectlite.TypeOf"], unfollowed := true, recurses := true, apart := false }
def BkeyNextSaid : Prop := bkeyNextRow.holds Try.pinned (OpenSpec.ofChange bkeyNextSpec)

/-- ITS FALSE NEIGHBOUR: 'it returns false'. Refute it at one input. -/
def bkeyNextWrong : ChangeSpec := { name := "bkeyNext", fn := fun _ => fun
  | [d1, d2] => { results := [.lit (.bool false)], args := [d1, d2] }
  | _ => none }
def BkeyNextWrongFalsely : Prop := bkeyNextRow.holds Try.pinned (OpenSpec.ofChange bkeyNextWrong)

/-- 'rowlocklaw02.BkeySpans': WHATEVER THE INPUT: true; the input reads as it did. -/
def bkeySpansSpec : ChangeSpec := { name := "bkeySpans", fn := fun _ => fun
  | [d1, d2, d3] => { results := [.lit (.bool true)], args := [d1, d2, d3] }
  | _ => none }
def bkeySpansRow : OpenClaim := { program := "ytakdnhfohpmcpaa", sum := "c4480e913991393dd5275e45cee6fbdb5df99b8d9298103ff535de4010ea7a7b", func := "rowlock/rowlocklaw02.BkeySpans", spec := "bkeySpans", inPlace := ["internal/bytealg.abigen_runtime_cmpstring"], apart := false }
def BkeySpansSaid : Prop := bkeySpansRow.holds Try.pinned (OpenSpec.ofChange bkeySpansSpec)

/-- ITS FALSE NEIGHBOUR: 'it returns false'. Refute it at one input. -/
def bkeySpansWrong : ChangeSpec := { name := "bkeySpans", fn := fun _ => fun
  | [d1, d2, d3] => { results := [.lit (.bool false)], args := [d1, d2, d3] }
  | _ => none }
def BkeySpansWrongFalsely : Prop := bkeySpansRow.holds Try.pinned (OpenSpec.ofChange bkeySpansWrong)

/-- 'rowlocklaw02.BkeyBegins': WHATEVER THE INPUT: true; the input reads as it did. -/
def bkeyBeginsSpec : ChangeSpec := { name := "bkeyBegins", fn := fun _ => fun
  | [d1, d2, d3] => { results := [.lit (.bool true)], args := [d1, d2, d3] }
  | _ => none }
def bkeyBeginsRow : OpenClaim := { program := "ytakdnhfohpmcpaa", sum := "c4480e913991393dd5275e45cee6fbdb5df99b8d9298103ff535de4010ea7a7b", func := "rowlock/rowlocklaw02.BkeyBegins", spec := "bkeyBegins", inPlace := ["internal/bytealg.abigen_runtime_cmpstring"], apart := false }
def BkeyBeginsSaid : Prop := bkeyBeginsRow.holds Try.pinned (OpenSpec.ofChange bkeyBeginsSpec)

/-- ITS FALSE NEIGHBOUR: 'it returns false'. Refute it at one input. -/
def bkeyBeginsWrong : ChangeSpec := { name := "bkeyBegins", fn := fun _ => fun
  | [d1, d2, d3] => { results := [.lit (.bool false)], args := [d1, d2, d3] }
  | _ => none }
def BkeyBeginsWrongFalsely : Prop := bkeyBeginsRow.holds Try.pinned (OpenSpec.ofChange bkeyBeginsWrong)

/-- 'rowlocklaw02.BkeyWhole': WHATEVER THE INPUT: true; the input reads as it did. -/
def bkeyWholeSpec : ChangeSpec := { name := "bkeyWhole", fn := fun _ => fun
  | [d1, d2] => { results := [.lit (.bool true)], args := [d1, d2] }
  | _ => none }
def bkeyWholeRow : OpenClaim := { program := "ytakdnhfohpmcpaa", sum := "c4480e913991393dd5275e45cee6fbdb5df99b8d9298103ff535de4010ea7a7b", func := "rowlock/rowlocklaw02.BkeyWhole", spec := "bkeyWhole", inPlace := ["internal/bytealg.abigen_runtime_cmpstring"], apart := false }
def BkeyWholeSaid : Prop := bkeyWholeRow.holds Try.pinned (OpenSpec.ofChange bkeyWholeSpec)

/-- ITS FALSE NEIGHBOUR: 'it returns false'. Refute it at one input. -/
def bkeyWholeWrong : ChangeSpec := { name := "bkeyWhole", fn := fun _ => fun
  | [d1, d2] => { results := [.lit (.bool false)], args := [d1, d2] }
  | _ => none }
def BkeyWholeWrongFalsely : Prop := bkeyWholeRow.holds Try.pinned (OpenSpec.ofChange bkeyWholeWrong)

/-- 'rowlocklaw02.BkeyAfter': WHATEVER THE INPUT: true; the input reads as it did. -/
def bkeyAfterSpec : ChangeSpec := { name := "bkeyAfter", fn := fun _ => fun
  | [d1, d2] => { results := [.lit (.bool true)], args := [d1, d2] }
  | _ => none }
def bkeyAfterRow : OpenClaim := { program := "ytakdnhfohpmcpaa", sum := "c4480e913991393dd5275e45cee6fbdb5df99b8d9298103ff535de4010ea7a7b", func := "rowlock/rowlocklaw02.BkeyAfter", spec := "bkeyAfter", inPlace := ["internal/bytealg.abigen_runtime_cmpstring"], apart := false }
def BkeyAfterSaid : Prop := bkeyAfterRow.holds Try.pinned (OpenSpec.ofChange bkeyAfterSpec)

/-- ITS FALSE NEIGHBOUR: 'it returns false'. Refute it at one input. -/
def bkeyAfterWrong : ChangeSpec := { name := "bkeyAfter", fn := fun _ => fun
  | [d1, d2] => { results := [.lit (.bool false)], args := [d1, d2] }
  | _ => none }
def BkeyAfterWrongFalsely : Prop := bkeyAfterRow.holds Try.pinned (OpenSpec.ofChange bkeyAfterWrong)

/- THE SECOND FORM. 'bulk': how many values and letters a reading holds, each counted each time it is reached (what is shared counts as often as it is met; a slice's spare places count too). A statement '..UptoSaid' is the law's where the arguments, and the package variables that the reading takes, are together of bulk at most 1048576: NARROWER than '..Said'. Prove '..Said' where nothing that the law and all that it calls make is longer than what came in: it says more and counts as full. Else prove '..UptoSaid'. A law counts once. -/
mutual
def uptoBulk {H : Type} : DataW H → Nat
  | .lit (.string bytes) => bytes.length + 1
  | .lit _ => 1
  | .nil => 1
  | .ptr d => uptoBulk d + 1
  | .slice elems spare => uptoBulkAll elems + uptoBulkAll spare + 1
  | .agg parts => uptoBulkAll parts + 1
  | .iface _ d => uptoBulk d + 1
  | .map entries => uptoBulkEntries entries + 1
  | .held _ => 1
def uptoBulkAll {H : Type} : List (DataW H) → Nat
  | [] => 0
  | d :: r => uptoBulk d + uptoBulkAll r
def uptoBulkEntries {H : Type} : List (Lit × DataW H) → Nat
  | [] => 0
  | x :: r => uptoBulkEntry x + uptoBulkEntries r
def uptoBulkEntry {H : Type} : Lit × DataW H → Nat
  | (.string bytes, d) => bytes.length + uptoBulk d + 1
  | (_, d) => uptoBulk d + 1
 end
def uptoSmall : (H : Type) → List (DataW H) → Bool := fun _ ds => decide (uptoBulkAll ds ≤ 1048576)
def OpenSpec.upto (s : _root_.Go.ChangeSpec) : _root_.Go.OpenSpec := { _root_.Go.OpenSpec.ofChange s with cond := some uptoSmall }

/-- 'rowlocklaw02.BkeyOrder', WHERE WHAT IT READS IS OF BULK AT MOST 1048576: true; the input reads as it did. -/
def bkeyOrderUptoRow : OpenClaim := { program := "ytakdnhfohpmcpaa", sum := "c4480e913991393dd5275e45cee6fbdb5df99b8d9298103ff535de4010ea7a7b", func := "rowlock/rowlocklaw02.BkeyOrder", spec := "bkeyOrder", inPlace := ["internal/bytealg.abigen_runtime_cmpstring"], apart := false, narrowed := true }
def BkeyOrderUptoSaid : Prop := bkeyOrderUptoRow.holds Try.pinned (OpenSpec.upto bkeyOrderSpec)

/-- 'rowlocklaw02.BkeyLine', WHERE WHAT IT READS IS OF BULK AT MOST 1048576: true; the input reads as it did. -/
def bkeyLineUptoRow : OpenClaim := { program := "ytakdnhfohpmcpaa", sum := "c4480e913991393dd5275e45cee6fbdb5df99b8d9298103ff535de4010ea7a7b", func := "rowlock/rowlocklaw02.BkeyLine", spec := "bkeyLine", inPlace := ["internal/bytealg.abigen_runtime_cmpstring"], apart := false, narrowed := true }
def BkeyLineUptoSaid : Prop := bkeyLineUptoRow.holds Try.pinned (OpenSpec.upto bkeyLineSpec)

/-- 'rowlocklaw02.BkeyBetween', WHERE WHAT IT READS IS OF BULK AT MOST 1048576: true; the input reads as it did. -/
def bkeyBetweenUptoRow : OpenClaim := { program := "ytakdnhfohpmcpaa", sum := "c4480e913991393dd5275e45cee6fbdb5df99b8d9298103ff535de4010ea7a7b", func := "rowlock/rowlocklaw02.BkeyBetween", spec := "bkeyBetween", inPlace := ["internal/bytealg.abigen_runtime_cmpstring", "internal/reflectlite.TypeOf"], unfollowed := true, recurses := true, apart := false, narrowed := true }
def BkeyBetweenUptoSaid : Prop := bkeyBetweenUptoRow.holds Try.pinned (OpenSpec.upto bkeyBetweenSpec)

/-- 'rowlocklaw02.BkeyParts', WHERE WHAT IT READS IS OF BULK AT MOST 1048576: true; the input reads as it did. -/
def bkeyPartsUptoRow : OpenClaim := { program := "ytakdnhfohpmcpaa", sum := "c4480e913991393dd5275e45cee6fbdb5df99b8d9298103ff535de4010ea7a7b", func := "rowlock/rowlocklaw02.BkeyParts", spec := "bkeyParts", inPlace := ["internal/bytealg.abigen_runtime_cmpstring"], apart := false, narrowed := true }
def BkeyPartsUptoSaid : Prop := bkeyPartsUptoRow.holds Try.pinned (OpenSpec.upto bkeyPartsSpec)

/-- 'rowlocklaw02.BkeyNext', WHERE WHAT IT READS IS OF BULK AT MOST 1048576: true; the input reads as it did. -/
def bkeyNextUptoRow : OpenClaim := { program := "ytakdnhfohpmcpaa", sum := "c4480e913991393dd5275e45cee6fbdb5df99b8d9298103ff535de4010ea7a7b", func := "rowlock/rowlocklaw02.BkeyNext", spec := "bkeyNext", inPlace := ["internal/bytealg.abigen_runtime_cmpstring", "internal/reflectlite.TypeOf"], unfollowed := true, recurses := true, apart := false, narrowed := true }
def BkeyNextUptoSaid : Prop := bkeyNextUptoRow.holds Try.pinned (OpenSpec.upto bkeyNextSpec)

/-- 'rowlocklaw02.BkeySpans', WHERE WHAT IT READS IS OF BULK AT MOST 1048576: true; the input reads as it did. -/
def bkeySpansUptoRow : OpenClaim := { program := "ytakdnhfohpmcpaa", sum := "c4480e913991393dd5275e45cee6fbdb5df99b8d9298103ff535de4010ea7a7b", func := "rowlock/rowlocklaw02.BkeySpans", spec := "bkeySpans", inPlace := ["internal/bytealg.abigen_runtime_cmpstring"], apart := false, narrowed := true }
def BkeySpansUptoSaid : Prop := bkeySpansUptoRow.holds Try.pinned (OpenSpec.upto bkeySpansSpec)

/-- 'rowlocklaw02.BkeyBegins', WHERE WHAT IT READS IS OF BULK AT MOST 1048576: true; the input reads as it did. -/
def bkeyBeginsUptoRow : OpenClaim := { program := "ytakdnhfohpmcpaa", sum := "c4480e913991393dd5275e45cee6fbdb5df99b8d9298103ff535de4010ea7a7b", func := "rowlock/rowlocklaw02.BkeyBegins", spec := "bkeyBegins", inPlace := ["internal/bytealg.abigen_runtime_cmpstring"], apart := false, narrowed := true }
def BkeyBeginsUptoSaid : Prop := bkeyBeginsUptoRow.holds Try.pinned (OpenSpec.upto bkeyBeginsSpec)

/-- 'rowlocklaw02.BkeyWhole', WHERE WHAT IT READS IS OF BULK AT MOST 1048576: true; the input reads as it did. -/
def bkeyWholeUptoRow : OpenClaim := { program := "ytakdnhfohpmcpaa", sum := "c4480e913991393dd5275e45cee6fbdb5df99b8d9298103ff535de4010ea7a7b", func := "rowlock/rowlocklaw02.BkeyWhole", spec := "bkeyWhole", inPlace := ["internal/bytealg.abigen_runtime_cmpstring"], apart := false, narrowed := true }
def BkeyWholeUptoSaid : Prop := bkeyWholeUptoRow.holds Try.pinned (OpenSpec.upto bkeyWholeSpec)

/-- 'rowlocklaw02.BkeyAfter', WHERE WHAT IT READS IS OF BULK AT MOST 1048576: true; the input reads as it did. -/
def bkeyAfterUptoRow : OpenClaim := { program := "ytakdnhfohpmcpaa", sum := "c4480e913991393dd5275e45cee6fbdb5df99b8d9298103ff535de4010ea7a7b", func := "rowlock/rowlocklaw02.BkeyAfter", spec := "bkeyAfter", inPlace := ["internal/bytealg.abigen_runtime_cmpstring"], apart := false, narrowed := true }
def BkeyAfterUptoSaid : Prop := bkeyAfterUptoRow.holds Try.pinned (OpenSpec.upto bkeyAfterSpec)

end Rows
end Go.Proofs.Ytakdnhfohpmcpaa
