/-
  No cell of these rows narrows 'for every input' (looked for: loops, veiled, ifaces, maps, wideKeys, modest, calm, conditions, laid).
  DERIVED. THE GIVEN ROWS OF THIS SEAT. 6 by the template 'for every input the law returns true; each argument reads behind the call as it read before'; 0 by the template 'total and deterministic' (their statements: YtkbfhpgcjljbbaaTotals.lean).
  GIVEN WITH THE SEED: the statements are not yours to turn. If you find one false, say at which input.
  Laid BY PROGRAM, IN A SANDBOX (cutbox-rows.mjs): the forced cells as the released guide's own fill.sh prints them over the translation 885d18ec6f6cccfc… (all of the seat's roots in one cut). By AI agents, Wed Nov 11 2026. No macro, syntax, notation, axiom, sorry.
-/
import Derived.Test.YtkbfhpgcjljbbaaChecked
import GoSem.Claim
import GoSem.ClaimJoined
import GoSem.ClaimMapViews
import Derived.JoinedTies
import Derived.KernelRfl
namespace Go.Proofs.Ytkbfhpgcjljbbaa
/- THE CELL 'sum', in the pinned program and in every row, IS THE sha256 OF THE DUMP (.gsa) THAT YtkbfhpgcjljbbaaProg.lean LOADS. Nothing in Lean hashes anything: it is a label: what it is worth is what the hold of that sum in a sandbox is worth. -/
noncomputable def Try.pinned : Pinned := { name := "ytkbfhpgcjljbbaa", sum := "885d18ec6f6cccfc7d1bbf679b33a47e614f8e7d598031b98975b6a3bc1eb7b1", checked := Try.checked }
namespace Rows
def none {H : Type} : Left H := { results := [], args := [] }

/-- 'rowlocklaw16.CommitsFirst': WHATEVER THE INPUT: true; the input reads as it did. -/
def commitsFirstSpec : ChangeSpec := { name := "commitsFirst", fn := fun _ => fun
  | [d] => { results := [.lit (.bool true)], args := [d] }
  | _ => none }
def commitsFirstRow : OpenClaim := { program := "ytkbfhpgcjljbbaa", sum := "885d18ec6f6cccfc7d1bbf679b33a47e614f8e7d598031b98975b6a3bc1eb7b1", func := "rowlock/rowlocklaw16.CommitsFirst", spec := "commitsFirst", inPlace := ["internal/bytealg.abigen_runtime_cmpstring"], apart := false }
def CommitsFirstSaid : Prop := commitsFirstRow.holds Try.pinned (OpenSpec.ofChange commitsFirstSpec)

/-- ITS FALSE NEIGHBOUR: 'it returns false'. Refute it at one input. -/
def commitsFirstWrong : ChangeSpec := { name := "commitsFirst", fn := fun _ => fun
  | [d] => { results := [.lit (.bool false)], args := [d] }
  | _ => none }
def CommitsFirstWrongFalsely : Prop := commitsFirstRow.holds Try.pinned (OpenSpec.ofChange commitsFirstWrong)

/-- 'rowlocklaw16.CommitsFinds': WHATEVER THE INPUT: true; the input reads as it did. -/
def commitsFindsSpec : ChangeSpec := { name := "commitsFinds", fn := fun _ => fun
  | [d1, d2, d3, d4] => { results := [.lit (.bool true)], args := [d1, d2, d3, d4] }
  | _ => none }
def commitsFindsRow : OpenClaim := { program := "ytkbfhpgcjljbbaa", sum := "885d18ec6f6cccfc7d1bbf679b33a47e614f8e7d598031b98975b6a3bc1eb7b1", func := "rowlock/rowlocklaw16.CommitsFinds", spec := "commitsFinds", inPlace := ["internal/bytealg.abigen_runtime_cmpstring"], unfollowed := true, recurses := true, apart := false }
def CommitsFindsSaid : Prop := commitsFindsRow.holds Try.pinned (OpenSpec.ofChange commitsFindsSpec)

/-- ITS FALSE NEIGHBOUR: 'it returns false'. Refute it at one input. -/
def commitsFindsWrong : ChangeSpec := { name := "commitsFinds", fn := fun _ => fun
  | [d1, d2, d3, d4] => { results := [.lit (.bool false)], args := [d1, d2, d3, d4] }
  | _ => none }
def CommitsFindsWrongFalsely : Prop := commitsFindsRow.holds Try.pinned (OpenSpec.ofChange commitsFindsWrong)

/-- 'rowlocklaw16.CommitsClash': WHATEVER THE INPUT: true; the input reads as it did. -/
def commitsClashSpec : ChangeSpec := { name := "commitsClash", fn := fun _ => fun
  | [d1, d2, d3] => { results := [.lit (.bool true)], args := [d1, d2, d3] }
  | _ => none }
def commitsClashRow : OpenClaim := { program := "ytkbfhpgcjljbbaa", sum := "885d18ec6f6cccfc7d1bbf679b33a47e614f8e7d598031b98975b6a3bc1eb7b1", func := "rowlock/rowlocklaw16.CommitsClash", spec := "commitsClash", inPlace := ["internal/bytealg.abigen_runtime_cmpstring"], apart := false }
def CommitsClashSaid : Prop := commitsClashRow.holds Try.pinned (OpenSpec.ofChange commitsClashSpec)

/-- ITS FALSE NEIGHBOUR: 'it returns false'. Refute it at one input. -/
def commitsClashWrong : ChangeSpec := { name := "commitsClash", fn := fun _ => fun
  | [d1, d2, d3] => { results := [.lit (.bool false)], args := [d1, d2, d3] }
  | _ => none }
def CommitsClashWrongFalsely : Prop := commitsClashRow.holds Try.pinned (OpenSpec.ofChange commitsClashWrong)

/-- 'rowlocklaw16.CommitsNobody': WHATEVER THE INPUT: true; the input reads as it did. -/
def commitsNobodySpec : ChangeSpec := { name := "commitsNobody", fn := fun _ => fun
  | [d] => { results := [.lit (.bool true)], args := [d] }
  | _ => none }
def commitsNobodyRow : OpenClaim := { program := "ytkbfhpgcjljbbaa", sum := "885d18ec6f6cccfc7d1bbf679b33a47e614f8e7d598031b98975b6a3bc1eb7b1", func := "rowlock/rowlocklaw16.CommitsNobody", spec := "commitsNobody", inPlace := ["internal/bytealg.abigen_runtime_cmpstring", "internal/reflectlite.TypeOf", "maps.clone"], unfollowed := true, recurses := true, apart := false }
def CommitsNobodySaid : Prop := commitsNobodyRow.holds Try.pinned (OpenSpec.ofChange commitsNobodySpec)

/-- ITS FALSE NEIGHBOUR: 'it returns false'. Refute it at one input. -/
def commitsNobodyWrong : ChangeSpec := { name := "commitsNobody", fn := fun _ => fun
  | [d] => { results := [.lit (.bool false)], args := [d] }
  | _ => none }
def CommitsNobodyWrongFalsely : Prop := commitsNobodyRow.holds Try.pinned (OpenSpec.ofChange commitsNobodyWrong)

/-- 'rowlocklaw16.CommitsTwice': WHATEVER THE INPUT: true; the input reads as it did. -/
def commitsTwiceSpec : ChangeSpec := { name := "commitsTwice", fn := fun _ => fun
  | [d1, d2, d3] => { results := [.lit (.bool true)], args := [d1, d2, d3] }
  | _ => none }
def commitsTwiceRow : OpenClaim := { program := "ytkbfhpgcjljbbaa", sum := "885d18ec6f6cccfc7d1bbf679b33a47e614f8e7d598031b98975b6a3bc1eb7b1", func := "rowlock/rowlocklaw16.CommitsTwice", spec := "commitsTwice", inPlace := ["internal/bytealg.abigen_runtime_cmpstring"], apart := false }
def CommitsTwiceSaid : Prop := commitsTwiceRow.holds Try.pinned (OpenSpec.ofChange commitsTwiceSpec)

/-- ITS FALSE NEIGHBOUR: 'it returns false'. Refute it at one input. -/
def commitsTwiceWrong : ChangeSpec := { name := "commitsTwice", fn := fun _ => fun
  | [d1, d2, d3] => { results := [.lit (.bool false)], args := [d1, d2, d3] }
  | _ => none }
def CommitsTwiceWrongFalsely : Prop := commitsTwiceRow.holds Try.pinned (OpenSpec.ofChange commitsTwiceWrong)

/-- 'rowlocklaw16.CommitsClear': WHATEVER THE INPUT: true; the input reads as it did. -/
def commitsClearSpec : ChangeSpec := { name := "commitsClear", fn := fun _ => fun
  | [d1, d2] => { results := [.lit (.bool true)], args := [d1, d2] }
  | _ => none }
def commitsClearRow : OpenClaim := { program := "ytkbfhpgcjljbbaa", sum := "885d18ec6f6cccfc7d1bbf679b33a47e614f8e7d598031b98975b6a3bc1eb7b1", func := "rowlock/rowlocklaw16.CommitsClear", spec := "commitsClear", inPlace := ["internal/bytealg.abigen_runtime_cmpstring"], apart := false }
def CommitsClearSaid : Prop := commitsClearRow.holds Try.pinned (OpenSpec.ofChange commitsClearSpec)

/-- ITS FALSE NEIGHBOUR: 'it returns false'. Refute it at one input. -/
def commitsClearWrong : ChangeSpec := { name := "commitsClear", fn := fun _ => fun
  | [d1, d2] => { results := [.lit (.bool false)], args := [d1, d2] }
  | _ => none }
def CommitsClearWrongFalsely : Prop := commitsClearRow.holds Try.pinned (OpenSpec.ofChange commitsClearWrong)

/- THE SECOND FORM. 'bulk': how many values and letters a reading holds, each counted each time it is reached (what is shared counts as often as it is met; a slice's spare places count too). A statement '..UptoSaid' is the law's where the arguments, and the package variables that the reading takes, are together of bulk at most 1048576: NARROWER than '..Said'. Prove '..Said' where nothing that the law and all that it calls make is longer than what came in: it says more and counts as full. Else prove '..UptoSaid'. A law counts once. -/
mutual
def uptoBulk {H : Type} : DataW H → Nat
  | .lit (.string bytes) => bytes.length + 1
  | .lit _ => 1
  | .nil => 1
  | .ptr d => uptoBulk d + 1
  | .slice elems spare => uptoBulkAll elems + uptoBulkAll spare + 1
  | .agg parts => uptoBulkAll parts + 1
  | .iface _ d => uptoBulk d + 1
  | .map entries => uptoBulkEntries entries + 1
  | .held _ => 1
def uptoBulkAll {H : Type} : List (DataW H) → Nat
  | [] => 0
  | d :: r => uptoBulk d + uptoBulkAll r
def uptoBulkEntries {H : Type} : List (Lit × DataW H) → Nat
  | [] => 0
  | x :: r => uptoBulkEntry x + uptoBulkEntries r
def uptoBulkEntry {H : Type} : Lit × DataW H → Nat
  | (.string bytes, d) => bytes.length + uptoBulk d + 1
  | (_, d) => uptoBulk d + 1
 end
def uptoSmall : (H : Type) → List (DataW H) → Bool := fun _ ds => decide (uptoBulkAll ds ≤ 1048576)
def OpenSpec.upto (s : _root_.Go.ChangeSpec) : _root_.Go.OpenSpec := { _root_.Go.OpenSpec.ofChange s with cond := some uptoSmall }

/-- 'rowlocklaw16.CommitsFirst', WHERE WHAT IT READS IS OF BULK AT MOST 1048576: true; the input reads as it did. -/
def commitsFirstUptoRow : OpenClaim := { program := "ytkbfhpgcjljbbaa", sum := "885d18ec6f6cccfc7d1bbf679b33a47e614f8e7d598031b98975b6a3bc1eb7b1", func := "rowlock/rowlocklaw16.CommitsFirst", spec := "commitsFirst", inPlace := ["internal/bytealg.abigen_runtime_cmpstring"], apart := false, narrowed := true }
def CommitsFirstUptoSaid : Prop := commitsFirstUptoRow.holds Try.pinned (OpenSpec.upto commitsFirstSpec)

/-- 'rowlocklaw16.CommitsFinds', WHERE WHAT IT READS IS OF BULK AT MOST 1048576: true; the input reads as it did. -/
def commitsFindsUptoRow : OpenClaim := { program := "ytkbfhpgcjljbbaa", sum := "885d18ec6f6cccfc7d1bbf679b33a47e614f8e7d598031b98975b6a3bc1eb7b1", func := "rowlock/rowlocklaw16.CommitsFinds", spec := "commitsFinds", inPlace := ["internal/bytealg.abigen_runtime_cmpstring"], unfollowed := true, recurses := true, apart := false, narrowed := true }
def CommitsFindsUptoSaid : Prop := commitsFindsUptoRow.holds Try.pinned (OpenSpec.upto commitsFindsSpec)

/-- 'rowlocklaw16.CommitsClash', WHERE WHAT IT READS IS OF BULK AT MOST 1048576: true; the input reads as it did. -/
def commitsClashUptoRow : OpenClaim := { program := "ytkbfhpgcjljbbaa", sum := "885d18ec6f6cccfc7d1bbf679b33a47e614f8e7d598031b98975b6a3bc1eb7b1", func := "rowlock/rowlocklaw16.CommitsClash", spec := "commitsClash", inPlace := ["internal/bytealg.abigen_runtime_cmpstring"], apart := false, narrowed := true }
def CommitsClashUptoSaid : Prop := commitsClashUptoRow.holds Try.pinned (OpenSpec.upto commitsClashSpec)

/-- 'rowlocklaw16.CommitsNobody', WHERE WHAT IT READS IS OF BULK AT MOST 1048576: true; the input reads as it did. -/
def commitsNobodyUptoRow : OpenClaim := { program := "ytkbfhpgcjljbbaa", sum := "885d18ec6f6cccfc7d1bbf679b33a47e614f8e7d598031b98975b6a3bc1eb7b1", func := "rowlock/rowlocklaw16.CommitsNobody", spec := "commitsNobody", inPlace := ["internal/bytealg.abigen_runtime_cmpstring", "internal/reflectlite.TypeOf", "maps.clone"], unfollowed := true, recurses := true, apart := false, narrowed := true }
def CommitsNobodyUptoSaid : Prop := commitsNobodyUptoRow.holds Try.pinned (OpenSpec.upto commitsNobodySpec)

/-- 'rowlocklaw16.CommitsTwice', WHERE WHAT IT READS IS OF BULK AT MOST 1048576: true; the input reads as it did. -/
def commitsTwiceUptoRow : OpenClaim := { program := "ytkbfhpgcjljbbaa", sum := "885d18ec6f6cccfc7d1bbf679b33a47e614f8e7d598031b98975b6a3bc1eb7b1", func := "rowlock/rowlocklaw16.CommitsTwice", spec := "commitsTwice", inPlace := ["internal/bytealg.abigen_runtime_cmpstring"], apart := false, narrowed := true }
def CommitsTwiceUptoSaid : Prop := commitsTwiceUptoRow.holds Try.pinned (OpenSpec.upto commitsTwiceSpec)

/-- 'rowlocklaw16.CommitsClear', WHERE WHAT IT READS IS OF BULK AT MOST 1048576: true; the input reads as it did. -/
def commitsClearUptoRow : OpenClaim := { program := "ytkbfhpgcjljbbaa", sum := "885d18ec6f6cccfc7d1bbf679b33a47e614f8e7d598031b98975b6a3bc1eb7b1", func := "rowlock/rowlocklaw16.CommitsClear", spec := "commitsClear", inPlace := ["internal/bytealg.abigen_runtime_cmpstring"], apart := false, narrowed := true }
def CommitsClearUptoSaid : Prop := commitsClearUptoRow.holds Try.pinned (OpenSpec.upto commitsClearSpec)

end Rows
end Go.Proofs.Ytkbfhpgcjljbbaa
