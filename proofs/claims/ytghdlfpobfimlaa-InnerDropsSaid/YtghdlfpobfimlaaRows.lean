/-
  No cell of these rows narrows 'for every input' (looked for: loops, veiled, ifaces, maps, wideKeys, modest, calm, conditions, laid).
  DERIVED. THE GIVEN ROWS OF THIS SEAT. 5 by the template 'for every input the law returns true; each argument reads behind the call as it read before'; 0 by the template 'total and deterministic' (their statements: YtghdlfpobfimlaaTotals.lean).
  GIVEN WITH THE SEED: the statements are not yours to turn. If you find one false, say at which input.
  Laid BY PROGRAM, IN A SANDBOX (cutbox-rows.mjs): the forced cells as the released guide's own fill.sh prints them over the translation ab6cad58b9821480… (all of the seat's roots in one cut). By AI agents, Wed Nov 11 2026. No macro, syntax, notation, axiom, sorry.
-/
import Derived.Test.YtghdlfpobfimlaaChecked
import GoSem.Claim
import GoSem.ClaimJoined
import GoSem.ClaimMapViews
import Derived.JoinedTies
import Derived.KernelRfl
namespace Go.Proofs.Ytghdlfpobfimlaa
/- THE CELL 'sum', in the pinned program and in every row, IS THE sha256 OF THE DUMP (.gsa) THAT YtghdlfpobfimlaaProg.lean LOADS. Nothing in Lean hashes anything: it is a label: what it is worth is what the hold of that sum in a sandbox is worth. -/
noncomputable def Try.pinned : Pinned := { name := "ytghdlfpobfimlaa", sum := "ab6cad58b982148048869b9f950a1de769307ad703fcfccf8fd40ce55dccec3a", checked := Try.checked }
namespace Rows
def none {H : Type} : Left H := { results := [], args := [] }

/-- 'rowlocklaw08.InnerOne': WHATEVER THE INPUT: true; the input reads as it did. -/
def innerOneSpec : ChangeSpec := { name := "innerOne", fn := fun _ => fun
  | [d1, d2, d3] => { results := [.lit (.bool true)], args := [d1, d2, d3] }
  | _ => none }
def innerOneRow : OpenClaim := { program := "ytghdlfpobfimlaa", sum := "ab6cad58b982148048869b9f950a1de769307ad703fcfccf8fd40ce55dccec3a", func := "rowlock/rowlocklaw08.InnerOne", spec := "innerOne", inPlace := ["internal/bytealg.abigen_runtime_cmpstring", "internal/reflectlite.TypeOf"], unfollowed := true, recurses := true, apart := false }
def InnerOneSaid : Prop := innerOneRow.holds Try.pinned (OpenSpec.ofChange innerOneSpec)

/-- ITS FALSE NEIGHBOUR: 'it returns false'. Refute it at one input. -/
def innerOneWrong : ChangeSpec := { name := "innerOne", fn := fun _ => fun
  | [d1, d2, d3] => { results := [.lit (.bool false)], args := [d1, d2, d3] }
  | _ => none }
def InnerOneWrongFalsely : Prop := innerOneRow.holds Try.pinned (OpenSpec.ofChange innerOneWrong)

/-- 'rowlocklaw08.InnerParts': WHATEVER THE INPUT: true; the input reads as it did. -/
def innerPartsSpec : ChangeSpec := { name := "innerParts", fn := fun _ => fun
  | [d1, d2, d3] => { results := [.lit (.bool true)], args := [d1, d2, d3] }
  | _ => none }
def innerPartsRow : OpenClaim := { program := "ytghdlfpobfimlaa", sum := "ab6cad58b982148048869b9f950a1de769307ad703fcfccf8fd40ce55dccec3a", func := "rowlock/rowlocklaw08.InnerParts", spec := "innerParts", inPlace := ["internal/bytealg.abigen_runtime_cmpstring"], unfollowed := true, recurses := true, apart := false }
def InnerPartsSaid : Prop := innerPartsRow.holds Try.pinned (OpenSpec.ofChange innerPartsSpec)

/-- ITS FALSE NEIGHBOUR: 'it returns false'. Refute it at one input. -/
def innerPartsWrong : ChangeSpec := { name := "innerParts", fn := fun _ => fun
  | [d1, d2, d3] => { results := [.lit (.bool false)], args := [d1, d2, d3] }
  | _ => none }
def InnerPartsWrongFalsely : Prop := innerPartsRow.holds Try.pinned (OpenSpec.ofChange innerPartsWrong)

/-- 'rowlocklaw08.InnerDrops': WHATEVER THE INPUT: true; the input reads as it did. -/
def innerDropsSpec : ChangeSpec := { name := "innerDrops", fn := fun _ => fun
  | [d1, d2, d3] => { results := [.lit (.bool true)], args := [d1, d2, d3] }
  | _ => none }
def innerDropsRow : OpenClaim := { program := "ytghdlfpobfimlaa", sum := "ab6cad58b982148048869b9f950a1de769307ad703fcfccf8fd40ce55dccec3a", func := "rowlock/rowlocklaw08.InnerDrops", spec := "innerDrops", inPlace := ["internal/bytealg.abigen_runtime_cmpstring"], unfollowed := true, recurses := true, apart := false }
def InnerDropsSaid : Prop := innerDropsRow.holds Try.pinned (OpenSpec.ofChange innerDropsSpec)

/-- ITS FALSE NEIGHBOUR: 'it returns false'. Refute it at one input. -/
def innerDropsWrong : ChangeSpec := { name := "innerDrops", fn := fun _ => fun
  | [d1, d2, d3] => { results := [.lit (.bool false)], args := [d1, d2, d3] }
  | _ => none }
def InnerDropsWrongFalsely : Prop := innerDropsRow.holds Try.pinned (OpenSpec.ofChange innerDropsWrong)

/-- 'rowlocklaw08.InnerBack': WHATEVER THE INPUT: true; the input reads as it did. -/
def innerBackSpec : ChangeSpec := { name := "innerBack", fn := fun _ => fun
  | [d] => { results := [.lit (.bool true)], args := [d] }
  | _ => none }
def innerBackRow : OpenClaim := { program := "ytghdlfpobfimlaa", sum := "ab6cad58b982148048869b9f950a1de769307ad703fcfccf8fd40ce55dccec3a", func := "rowlock/rowlocklaw08.InnerBack", spec := "innerBack", inPlace := ["internal/bytealg.abigen_runtime_cmpstring"], unfollowed := true, recurses := true, apart := false }
def InnerBackSaid : Prop := innerBackRow.holds Try.pinned (OpenSpec.ofChange innerBackSpec)

/-- ITS FALSE NEIGHBOUR: 'it returns false'. Refute it at one input. -/
def innerBackWrong : ChangeSpec := { name := "innerBack", fn := fun _ => fun
  | [d] => { results := [.lit (.bool false)], args := [d] }
  | _ => none }
def InnerBackWrongFalsely : Prop := innerBackRow.holds Try.pinned (OpenSpec.ofChange innerBackWrong)

/-- 'rowlocklaw08.InnerTwice': WHATEVER THE INPUT: true; the input reads as it did. -/
def innerTwiceSpec : ChangeSpec := { name := "innerTwice", fn := fun _ => fun
  | [d1, d2, d3, d4] => { results := [.lit (.bool true)], args := [d1, d2, d3, d4] }
  | _ => none }
def innerTwiceRow : OpenClaim := { program := "ytghdlfpobfimlaa", sum := "ab6cad58b982148048869b9f950a1de769307ad703fcfccf8fd40ce55dccec3a", func := "rowlock/rowlocklaw08.InnerTwice", spec := "innerTwice", inPlace := ["internal/bytealg.abigen_runtime_cmpstring"], unfollowed := true, recurses := true, apart := false }
def InnerTwiceSaid : Prop := innerTwiceRow.holds Try.pinned (OpenSpec.ofChange innerTwiceSpec)

/-- ITS FALSE NEIGHBOUR: 'it returns false'. Refute it at one input. -/
def innerTwiceWrong : ChangeSpec := { name := "innerTwice", fn := fun _ => fun
  | [d1, d2, d3, d4] => { results := [.lit (.bool false)], args := [d1, d2, d3, d4] }
  | _ => none }
def InnerTwiceWrongFalsely : Prop := innerTwiceRow.holds Try.pinned (OpenSpec.ofChange innerTwiceWrong)

/- THE SECOND FORM. 'bulk': how many values and letters a reading holds, each counted each time it is reached (what is shared counts as often as it is met; a slice's spare places count too). A statement '..UptoSaid' is the law's where the arguments, and the package variables that the reading takes, are together of bulk at most 1048576: NARROWER than '..Said'. Prove '..Said' where nothing that the law and all that it calls make is longer than what came in: it says more and counts as full. Else prove '..UptoSaid'. A law counts once. -/
mutual
def uptoBulk {H : Type} : DataW H → Nat
  | .lit (.string bytes) => bytes.length + 1
  | .lit _ => 1
  | .nil => 1
  | .ptr d => uptoBulk d + 1
  | .slice elems spare => uptoBulkAll elems + uptoBulkAll spare + 1
  | .agg parts => uptoBulkAll parts + 1
  | .iface _ d => uptoBulk d + 1
  | .map entries => uptoBulkEntries entries + 1
  | .held _ => 1
def uptoBulkAll {H : Type} : List (DataW H) → Nat
  | [] => 0
  | d :: r => uptoBulk d + uptoBulkAll r
def uptoBulkEntries {H : Type} : List (Lit × DataW H) → Nat
  | [] => 0
  | x :: r => uptoBulkEntry x + uptoBulkEntries r
def uptoBulkEntry {H : Type} : Lit × DataW H → Nat
  | (.string bytes, d) => bytes.length + uptoBulk d + 1
  | (_, d) => uptoBulk d + 1
 end
def uptoSmall : (H : Type) → List (DataW H) → Bool := fun _ ds => decide (uptoBulkAll ds ≤ 1048576)
def OpenSpec.upto (s : _root_.Go.ChangeSpec) : _root_.Go.OpenSpec := { _root_.Go.OpenSpec.ofChange s with cond := some uptoSmall }

/-- 'rowlocklaw08.InnerOne', WHERE WHAT IT READS IS OF BULK AT MOST 1048576: true; the input reads as it did. -/
def innerOneUptoRow : OpenClaim := { program := "ytghdlfpobfimlaa", sum := "ab6cad58b982148048869b9f950a1de769307ad703fcfccf8fd40ce55dccec3a", func := "rowlock/rowlocklaw08.InnerOne", spec := "innerOne", inPlace := ["internal/bytealg.abigen_runtime_cmpstring", "internal/reflectlite.TypeOf"], unfollowed := true, recurses := true, apart := false, narrowed := true }
def InnerOneUptoSaid : Prop := innerOneUptoRow.holds Try.pinned (OpenSpec.upto innerOneSpec)

/-- 'rowlocklaw08.InnerParts', WHERE WHAT IT READS IS OF BULK AT MOST 1048576: true; the input reads as it did. -/
def innerPartsUptoRow : OpenClaim := { program := "ytghdlfpobfimlaa", sum := "ab6cad58b982148048869b9f950a1de769307ad703fcfccf8fd40ce55dccec3a", func := "rowlock/rowlocklaw08.InnerParts", spec := "innerParts", inPlace := ["internal/bytealg.abigen_runtime_cmpstring"], unfollowed := true, recurses := true, apart := false, narrowed := true }
def InnerPartsUptoSaid : Prop := innerPartsUptoRow.holds Try.pinned (OpenSpec.upto innerPartsSpec)

/-- 'rowlocklaw08.InnerDrops', WHERE WHAT IT READS IS OF BULK AT MOST 1048576: true; the input reads as it did. -/
def innerDropsUptoRow : OpenClaim := { program := "ytghdlfpobfimlaa", sum := "ab6cad58b982148048869b9f950a1de769307ad703fcfccf8fd40ce55dccec3a", func := "rowlock/rowlocklaw08.InnerDrops", spec := "innerDrops", inPlace := ["internal/bytealg.abigen_runtime_cmpstring"], unfollowed := true, recurses := true, apart := false, narrowed := true }
def InnerDropsUptoSaid : Prop := innerDropsUptoRow.holds Try.pinned (OpenSpec.upto innerDropsSpec)

/-- 'rowlocklaw08.InnerBack', WHERE WHAT IT READS IS OF BULK AT MOST 1048576: true; the input reads as it did. -/
def innerBackUptoRow : OpenClaim := { program := "ytghdlfpobfimlaa", sum := "ab6cad58b982148048869b9f950a1de769307ad703fcfccf8fd40ce55dccec3a", func := "rowlock/rowlocklaw08.InnerBack", spec := "innerBack", inPlace := ["internal/bytealg.abigen_runtime_cmpstring"], unfollowed := true, recurses := true, apart := false, narrowed := true }
def InnerBackUptoSaid : Prop := innerBackUptoRow.holds Try.pinned (OpenSpec.upto innerBackSpec)

/-- 'rowlocklaw08.InnerTwice', WHERE WHAT IT READS IS OF BULK AT MOST 1048576: true; the input reads as it did. -/
def innerTwiceUptoRow : OpenClaim := { program := "ytghdlfpobfimlaa", sum := "ab6cad58b982148048869b9f950a1de769307ad703fcfccf8fd40ce55dccec3a", func := "rowlock/rowlocklaw08.InnerTwice", spec := "innerTwice", inPlace := ["internal/bytealg.abigen_runtime_cmpstring"], unfollowed := true, recurses := true, apart := false, narrowed := true }
def InnerTwiceUptoSaid : Prop := innerTwiceUptoRow.holds Try.pinned (OpenSpec.upto innerTwiceSpec)

end Rows
end Go.Proofs.Ytghdlfpobfimlaa
