/-
  No cell of these rows narrows 'for every input' (looked for: loops, veiled, ifaces, maps, wideKeys, modest, calm, conditions, laid).
  DERIVED. THE GIVEN ROWS OF THIS SEAT. 4 by the template 'for every input the law returns true; each argument reads behind the call as it read before'; 0 by the template 'total and deterministic' (their statements: YtkkmfacngmginaaTotals.lean).
  GIVEN WITH THE SEED: the statements are not yours to turn. If you find one false, say at which input.
  Laid BY PROGRAM, IN A SANDBOX (cutbox-rows.mjs): the forced cells as the released guide's own fill.sh prints them over the translation b97999112259ed89… (all of the seat's roots in one cut). By AI agents, Wed Nov 11 2026. No macro, syntax, notation, axiom, sorry.
-/
import Derived.Test.YtkkmfacngmginaaChecked
import GoSem.Claim
import GoSem.ClaimJoined
import GoSem.ClaimMapViews
import Derived.JoinedTies
import Derived.KernelRfl
namespace Go.Proofs.Ytkkmfacngmginaa
/- THE CELL 'sum', in the pinned program and in every row, IS THE sha256 OF THE DUMP (.gsa) THAT YtkkmfacngmginaaProg.lean LOADS. Nothing in Lean hashes anything: it is a label: what it is worth is what the hold of that sum in a sandbox is worth. -/
noncomputable def Try.pinned : Pinned := { name := "ytkkmfacngmginaa", sum := "b97999112259ed89d13e5bfb7f9db529911b31fc29d56592216cc80be4e983e9", checked := Try.checked }
namespace Rows
def none {H : Type} : Left H := { results := [], args := [] }

/-- 'rowlocklaw08.InnerParts': WHATEVER THE INPUT: true; the input reads as it did. -/
def innerPartsSpec : ChangeSpec := { name := "innerParts", fn := fun _ => fun
  | [d1, d2, d3] => { results := [.lit (.bool true)], args := [d1, d2, d3] }
  | _ => none }
def innerPartsRow : OpenClaim := { program := "ytkkmfacngmginaa", sum := "b97999112259ed89d13e5bfb7f9db529911b31fc29d56592216cc80be4e983e9", func := "rowlock/rowlocklaw08.InnerParts", spec := "innerParts", inPlace := ["internal/bytealg.abigen_runtime_cmpstring"], unfollowed := true, recurses := true, apart := false }
def InnerPartsSaid : Prop := innerPartsRow.holds Try.pinned (OpenSpec.ofChange innerPartsSpec)

/-- ITS FALSE NEIGHBOUR: 'it returns false'. Refute it at one input. -/
def innerPartsWrong : ChangeSpec := { name := "innerParts", fn := fun _ => fun
  | [d1, d2, d3] => { results := [.lit (.bool false)], args := [d1, d2, d3] }
  | _ => none }
def InnerPartsWrongFalsely : Prop := innerPartsRow.holds Try.pinned (OpenSpec.ofChange innerPartsWrong)

/-- 'rowlocklaw08.InnerTwice': WHATEVER THE INPUT: true; the input reads as it did. -/
def innerTwiceSpec : ChangeSpec := { name := "innerTwice", fn := fun _ => fun
  | [d1, d2, d3, d4] => { results := [.lit (.bool true)], args := [d1, d2, d3, d4] }
  | _ => none }
def innerTwiceRow : OpenClaim := { program := "ytkkmfacngmginaa", sum := "b97999112259ed89d13e5bfb7f9db529911b31fc29d56592216cc80be4e983e9", func := "rowlock/rowlocklaw08.InnerTwice", spec := "innerTwice", inPlace := ["internal/bytealg.abigen_runtime_cmpstring"], unfollowed := true, recurses := true, apart := false }
def InnerTwiceSaid : Prop := innerTwiceRow.holds Try.pinned (OpenSpec.ofChange innerTwiceSpec)

/-- ITS FALSE NEIGHBOUR: 'it returns false'. Refute it at one input. -/
def innerTwiceWrong : ChangeSpec := { name := "innerTwice", fn := fun _ => fun
  | [d1, d2, d3, d4] => { results := [.lit (.bool false)], args := [d1, d2, d3, d4] }
  | _ => none }
def InnerTwiceWrongFalsely : Prop := innerTwiceRow.holds Try.pinned (OpenSpec.ofChange innerTwiceWrong)

/-- 'rowlocklaw09.MemNobody': WHATEVER THE INPUT: true; the input reads as it did. -/
def memNobodySpec : ChangeSpec := { name := "memNobody", fn := fun _ => fun
  | [d] => { results := [.lit (.bool true)], args := [d] }
  | _ => none }
def memNobodyRow : OpenClaim := { program := "ytkkmfacngmginaa", sum := "b97999112259ed89d13e5bfb7f9db529911b31fc29d56592216cc80be4e983e9", func := "rowlock/rowlocklaw09.MemNobody", spec := "memNobody", inPlace := ["internal/reflectlite.TypeOf", "maps.clone"], unfollowed := true, recurses := true, apart := false }
def MemNobodySaid : Prop := memNobodyRow.holds Try.pinned (OpenSpec.ofChange memNobodySpec)

/-- ITS FALSE NEIGHBOUR: 'it returns false'. Refute it at one input. -/
def memNobodyWrong : ChangeSpec := { name := "memNobody", fn := fun _ => fun
  | [d] => { results := [.lit (.bool false)], args := [d] }
  | _ => none }
def MemNobodyWrongFalsely : Prop := memNobodyRow.holds Try.pinned (OpenSpec.ofChange memNobodyWrong)

/-- 'rowlocklaw09.MemClock': WHATEVER THE INPUT: true; the input reads as it did. -/
def memClockSpec : ChangeSpec := { name := "memClock", fn := fun _ => fun
  | [d1, d2] => { results := [.lit (.bool true)], args := [d1, d2] }
  | _ => none }
def memClockRow : OpenClaim := { program := "ytkkmfacngmginaa", sum := "b97999112259ed89d13e5bfb7f9db529911b31fc29d56592216cc80be4e983e9", func := "rowlock/rowlocklaw09.MemClock", spec := "memClock", apart := false }
def MemClockSaid : Prop := memClockRow.holds Try.pinned (OpenSpec.ofChange memClockSpec)

/-- ITS FALSE NEIGHBOUR: 'it returns false'. Refute it at one input. -/
def memClockWrong : ChangeSpec := { name := "memClock", fn := fun _ => fun
  | [d1, d2] => { results := [.lit (.bool false)], args := [d1, d2] }
  | _ => none }
def MemClockWrongFalsely : Prop := memClockRow.holds Try.pinned (OpenSpec.ofChange memClockWrong)

/- THE SECOND FORM. 'bulk': how many values and letters a reading holds, each counted each time it is reached (what is shared counts as often as it is met; a slice's spare places count too). A statement '..UptoSaid' is the law's where the arguments, and the package variables that the reading takes, are together of bulk at most 1048576: NARROWER than '..Said'. Prove '..Said' where nothing that the law and all that it calls make is longer than what came in: it says more and counts as full. Else prove '..UptoSaid'. A law counts once. -/
mutual
def uptoBulk {H : Type} : DataW H → Nat
  | .lit (.string bytes) => bytes.length + 1
  | .lit _ => 1
  | .nil => 1
  | .ptr d => uptoBulk d + 1
  | .slice elems spare => uptoBulkAll elems + uptoBulkAll spare + 1
  | .agg parts => uptoBulkAll parts + 1
  | .iface _ d => uptoBulk d + 1
  | .map entries => uptoBulkEntries entries + 1
  | .held _ => 1
def uptoBulkAll {H : Type} : List (DataW H) → Nat
  | [] => 0
  | d :: r => uptoBulk d + uptoBulkAll r
def uptoBulkEntries {H : Type} : List (Lit × DataW H) → Nat
  | [] => 0
  | x :: r => uptoBulkEntry x + uptoBulkEntries r
def uptoBulkEntry {H : Type} : Lit × DataW H → Nat
  | (.string bytes, d) => bytes.length + uptoBulk d + 1
  | (_, d) => uptoBulk d + 1
 end
def uptoSmall : (H : Type) → List (DataW H) → Bool := fun _ ds => decide (uptoBulkAll ds ≤ 1048576)
def OpenSpec.upto (s : _root_.Go.ChangeSpec) : _root_.Go.OpenSpec := { _root_.Go.OpenSpec.ofChange s with cond := some uptoSmall }

/-- 'rowlocklaw08.InnerParts', WHERE WHAT IT READS IS OF BULK AT MOST 1048576: true; the input reads as it did. -/
def innerPartsUptoRow : OpenClaim := { program := "ytkkmfacngmginaa", sum := "b97999112259ed89d13e5bfb7f9db529911b31fc29d56592216cc80be4e983e9", func := "rowlock/rowlocklaw08.InnerParts", spec := "innerParts", inPlace := ["internal/bytealg.abigen_runtime_cmpstring"], unfollowed := true, recurses := true, apart := false, narrowed := true }
def InnerPartsUptoSaid : Prop := innerPartsUptoRow.holds Try.pinned (OpenSpec.upto innerPartsSpec)

/-- 'rowlocklaw08.InnerTwice', WHERE WHAT IT READS IS OF BULK AT MOST 1048576: true; the input reads as it did. -/
def innerTwiceUptoRow : OpenClaim := { program := "ytkkmfacngmginaa", sum := "b97999112259ed89d13e5bfb7f9db529911b31fc29d56592216cc80be4e983e9", func := "rowlock/rowlocklaw08.InnerTwice", spec := "innerTwice", inPlace := ["internal/bytealg.abigen_runtime_cmpstring"], unfollowed := true, recurses := true, apart := false, narrowed := true }
def InnerTwiceUptoSaid : Prop := innerTwiceUptoRow.holds Try.pinned (OpenSpec.upto innerTwiceSpec)

/-- 'rowlocklaw09.MemNobody', WHERE WHAT IT READS IS OF BULK AT MOST 1048576: true; the input reads as it did. -/
def memNobodyUptoRow : OpenClaim := { program := "ytkkmfacngmginaa", sum := "b97999112259ed89d13e5bfb7f9db529911b31fc29d56592216cc80be4e983e9", func := "rowlock/rowlocklaw09.MemNobody", spec := "memNobody", inPlace := ["internal/reflectlite.TypeOf", "maps.clone"], unfollowed := true, recurses := true, apart := false, narrowed := true }
def MemNobodyUptoSaid : Prop := memNobodyUptoRow.holds Try.pinned (OpenSpec.upto memNobodySpec)

/-- 'rowlocklaw09.MemClock', WHERE WHAT IT READS IS OF BULK AT MOST 1048576: true; the input reads as it did. -/
def memClockUptoRow : OpenClaim := { program := "ytkkmfacngmginaa", sum := "b97999112259ed89d13e5bfb7f9db529911b31fc29d56592216cc80be4e983e9", func := "rowlock/rowlocklaw09.MemClock", spec := "memClock", apart := false, narrowed := true }
def MemClockUptoSaid : Prop := memClockUptoRow.holds Try.pinned (OpenSpec.upto memClockSpec)

end Rows
end Go.Proofs.Ytkkmfacngmginaa
