/-
  No cell of these rows narrows 'for every input' (looked for: loops, veiled, ifaces, maps, wideKeys, modest, calm, conditions, laid).
  DERIVED. THE GIVEN ROWS OF THIS SEAT. 5 by the template 'for every input the law returns true; each argument reads behind the call as it read before'; 0 by the template 'total and deterministic' (their statements: YtlooblgdlfheaaaTotals.lean).
  GIVEN WITH THE SEED: the statements are not yours to turn. If you find one false, say at which input.
  Laid BY PROGRAM, IN A SANDBOX (cutbox-rows.mjs): the forced cells as the released guide's own fill.sh prints them over the translation fe2c174f65be63e4… (all of the seat's roots in one cut). By AI agents, Wed Nov 11 2026. No macro, syntax, notation, axiom, sorry.
-/
import Derived.Test.YtlooblgdlfheaaaChecked
import GoSem.Claim
import GoSem.ClaimJoined
import GoSem.ClaimMapViews
import Derived.JoinedTies
import Derived.KernelRfl
namespace Go.Proofs.Ytlooblgdlfheaaa
/- THE CELL 'sum', in the pinned program and in every row, IS THE sha256 OF THE DUMP (.gsa) THAT YtlooblgdlfheaaaProg.lean LOADS. Nothing in Lean hashes anything: it is a label: what it is worth is what the hold of that sum in a sandbox is worth. -/
noncomputable def Try.pinned : Pinned := { name := "ytlooblgdlfheaaa", sum := "fe2c174f65be63e405ddffbc3a6079034c8f5882dbdb0a0cac67e2f417851f8e", checked := Try.checked }
namespace Rows
def none {H : Type} : Left H := { results := [], args := [] }

/-- 'arlinklaw07.ArmapMatchesReference': WHATEVER THE INPUT: true; the input reads as it did. -/
def armapMatchesReferenceSpec : ChangeSpec := { name := "armapMatchesReference", fn := fun _ => fun
  | [d1, d2] => { results := [.lit (.bool true)], args := [d1, d2] }
  | _ => none }
def armapMatchesReferenceRow : OpenClaim := { program := "ytlooblgdlfheaaa", sum := "fe2c174f65be63e405ddffbc3a6079034c8f5882dbdb0a0cac67e2f417851f8e", func := "arlink/arlinklaw07.ArmapMatchesReference", spec := "armapMatchesReference", inPlace := ["internal/bytealg.IndexByteString", "internal/bytealg.IndexByte", "internal/bytealg.Index"], unfollowed := true, recurses := true, named := ["internal/bytealg.MaxLen"], apart := false }
def ArmapMatchesReferenceSaid : Prop := armapMatchesReferenceRow.holds Try.pinned (OpenSpec.ofChange armapMatchesReferenceSpec)

/-- ITS FALSE NEIGHBOUR: 'it returns false'. Refute it at one input. -/
def armapMatchesReferenceWrong : ChangeSpec := { name := "armapMatchesReference", fn := fun _ => fun
  | [d1, d2] => { results := [.lit (.bool false)], args := [d1, d2] }
  | _ => none }
def ArmapMatchesReferenceWrongFalsely : Prop := armapMatchesReferenceRow.holds Try.pinned (OpenSpec.ofChange armapMatchesReferenceWrong)

/-- 'arlinklaw07.ArmapUnique': WHATEVER THE INPUT: true; the input reads as it did. -/
def armapUniqueSpec : ChangeSpec := { name := "armapUnique", fn := fun _ => fun
  | [d1, d2] => { results := [.lit (.bool true)], args := [d1, d2] }
  | _ => none }
def armapUniqueRow : OpenClaim := { program := "ytlooblgdlfheaaa", sum := "fe2c174f65be63e405ddffbc3a6079034c8f5882dbdb0a0cac67e2f417851f8e", func := "arlink/arlinklaw07.ArmapUnique", spec := "armapUnique", inPlace := ["internal/bytealg.IndexByteString", "internal/bytealg.IndexByte", "internal/bytealg.Index"], unfollowed := true, recurses := true, named := ["internal/bytealg.MaxLen"], apart := false }
def ArmapUniqueSaid : Prop := armapUniqueRow.holds Try.pinned (OpenSpec.ofChange armapUniqueSpec)

/-- ITS FALSE NEIGHBOUR: 'it returns false'. Refute it at one input. -/
def armapUniqueWrong : ChangeSpec := { name := "armapUnique", fn := fun _ => fun
  | [d1, d2] => { results := [.lit (.bool false)], args := [d1, d2] }
  | _ => none }
def ArmapUniqueWrongFalsely : Prop := armapUniqueRow.holds Try.pinned (OpenSpec.ofChange armapUniqueWrong)

/-- 'arlinklaw07.ArmapSize': WHATEVER THE INPUT: true; the input reads as it did. -/
def armapSizeSpec : ChangeSpec := { name := "armapSize", fn := fun _ => fun
  | [d] => { results := [.lit (.bool true)], args := [d] }
  | _ => none }
def armapSizeRow : OpenClaim := { program := "ytlooblgdlfheaaa", sum := "fe2c174f65be63e405ddffbc3a6079034c8f5882dbdb0a0cac67e2f417851f8e", func := "arlink/arlinklaw07.ArmapSize", spec := "armapSize", inPlace := ["internal/bytealg.IndexByteString", "internal/bytealg.IndexByte", "internal/bytealg.Index"], unfollowed := true, recurses := true, named := ["internal/bytealg.MaxLen"], apart := false }
def ArmapSizeSaid : Prop := armapSizeRow.holds Try.pinned (OpenSpec.ofChange armapSizeSpec)

/-- ITS FALSE NEIGHBOUR: 'it returns false'. Refute it at one input. -/
def armapSizeWrong : ChangeSpec := { name := "armapSize", fn := fun _ => fun
  | [d] => { results := [.lit (.bool false)], args := [d] }
  | _ => none }
def ArmapSizeWrongFalsely : Prop := armapSizeRow.holds Try.pinned (OpenSpec.ofChange armapSizeWrong)

/-- 'arlinklaw07.ArmapKeeps': WHATEVER THE INPUT: true; the input reads as it did. -/
def armapKeepsSpec : ChangeSpec := { name := "armapKeeps", fn := fun _ => fun
  | [d1, d2] => { results := [.lit (.bool true)], args := [d1, d2] }
  | _ => none }
def armapKeepsRow : OpenClaim := { program := "ytlooblgdlfheaaa", sum := "fe2c174f65be63e405ddffbc3a6079034c8f5882dbdb0a0cac67e2f417851f8e", func := "arlink/arlinklaw07.ArmapKeeps", spec := "armapKeeps", inPlace := ["internal/bytealg.IndexByteString", "internal/bytealg.IndexByte", "internal/bytealg.Index"], unfollowed := true, recurses := true, named := ["internal/bytealg.MaxLen"], apart := false }
def ArmapKeepsSaid : Prop := armapKeepsRow.holds Try.pinned (OpenSpec.ofChange armapKeepsSpec)

/-- ITS FALSE NEIGHBOUR: 'it returns false'. Refute it at one input. -/
def armapKeepsWrong : ChangeSpec := { name := "armapKeeps", fn := fun _ => fun
  | [d1, d2] => { results := [.lit (.bool false)], args := [d1, d2] }
  | _ => none }
def ArmapKeepsWrongFalsely : Prop := armapKeepsRow.holds Try.pinned (OpenSpec.ofChange armapKeepsWrong)

/-- 'arlinklaw07.ArmapConcat': WHATEVER THE INPUT: true; the input reads as it did. -/
def armapConcatSpec : ChangeSpec := { name := "armapConcat", fn := fun _ => fun
  | [d1, d2] => { results := [.lit (.bool true)], args := [d1, d2] }
  | _ => none }
def armapConcatRow : OpenClaim := { program := "ytlooblgdlfheaaa", sum := "fe2c174f65be63e405ddffbc3a6079034c8f5882dbdb0a0cac67e2f417851f8e", func := "arlink/arlinklaw07.ArmapConcat", spec := "armapConcat", inPlace := ["internal/bytealg.IndexByteString", "internal/bytealg.IndexByte", "internal/bytealg.Index"], unfollowed := true, recurses := true, named := ["internal/bytealg.MaxLen"], apart := false }
def ArmapConcatSaid : Prop := armapConcatRow.holds Try.pinned (OpenSpec.ofChange armapConcatSpec)

/-- ITS FALSE NEIGHBOUR: 'it returns false'. Refute it at one input. -/
def armapConcatWrong : ChangeSpec := { name := "armapConcat", fn := fun _ => fun
  | [d1, d2] => { results := [.lit (.bool false)], args := [d1, d2] }
  | _ => none }
def ArmapConcatWrongFalsely : Prop := armapConcatRow.holds Try.pinned (OpenSpec.ofChange armapConcatWrong)

/- THE SECOND FORM. 'bulk': how many values and letters a reading holds, each counted each time it is reached (what is shared counts as often as it is met; a slice's spare places count too). A statement '..UptoSaid' is the law's where the arguments, and the package variables that the reading takes, are together of bulk at most 1048576: NARROWER than '..Said'. Prove '..Said' where nothing that the law and all that it calls make is longer than what came in: it says more and counts as full. Else prove '..UptoSaid'. A law counts once. -/
mutual
def uptoBulk {H : Type} : DataW H → Nat
  | .lit (.string bytes) => bytes.length + 1
  | .lit _ => 1
  | .nil => 1
  | .ptr d => uptoBulk d + 1
  | .slice elems spare => uptoBulkAll elems + uptoBulkAll spare + 1
  | .agg parts => uptoBulkAll parts + 1
  | .iface _ d => uptoBulk d + 1
  | .map entries => uptoBulkEntries entries + 1
  | .held _ => 1
def uptoBulkAll {H : Type} : List (DataW H) → Nat
  | [] => 0
  | d :: r => uptoBulk d + uptoBulkAll r
def uptoBulkEntries {H : Type} : List (Lit × DataW H) → Nat
  | [] => 0
  | x :: r => uptoBulkEntry x + uptoBulkEntries r
def uptoBulkEntry {H : Type} : Lit × DataW H → Nat
  | (.string bytes, d) => bytes.length + uptoBulk d + 1
  | (_, d) => uptoBulk d + 1
 end
def uptoSmall : (H : Type) → List (DataW H) → Bool := fun _ ds => decide (uptoBulkAll ds ≤ 1048576)
def OpenSpec.upto (s : _root_.Go.ChangeSpec) : _root_.Go.OpenSpec := { _root_.Go.OpenSpec.ofChange s with cond := some uptoSmall }

/-- 'arlinklaw07.ArmapMatchesReference', WHERE WHAT IT READS IS OF BULK AT MOST 1048576: true; the input reads as it did. -/
def armapMatchesReferenceUptoRow : OpenClaim := { program := "ytlooblgdlfheaaa", sum := "fe2c174f65be63e405ddffbc3a6079034c8f5882dbdb0a0cac67e2f417851f8e", func := "arlink/arlinklaw07.ArmapMatchesReference", spec := "armapMatchesReference", inPlace := ["internal/bytealg.IndexByteString", "internal/bytealg.IndexByte", "internal/bytealg.Index"], unfollowed := true, recurses := true, named := ["internal/bytealg.MaxLen"], apart := false, narrowed := true }
def ArmapMatchesReferenceUptoSaid : Prop := armapMatchesReferenceUptoRow.holds Try.pinned (OpenSpec.upto armapMatchesReferenceSpec)

/-- 'arlinklaw07.ArmapUnique', WHERE WHAT IT READS IS OF BULK AT MOST 1048576: true; the input reads as it did. -/
def armapUniqueUptoRow : OpenClaim := { program := "ytlooblgdlfheaaa", sum := "fe2c174f65be63e405ddffbc3a6079034c8f5882dbdb0a0cac67e2f417851f8e", func := "arlink/arlinklaw07.ArmapUnique", spec := "armapUnique", inPlace := ["internal/bytealg.IndexByteString", "internal/bytealg.IndexByte", "internal/bytealg.Index"], unfollowed := true, recurses := true, named := ["internal/bytealg.MaxLen"], apart := false, narrowed := true }
def ArmapUniqueUptoSaid : Prop := armapUniqueUptoRow.holds Try.pinned (OpenSpec.upto armapUniqueSpec)

/-- 'arlinklaw07.ArmapSize', WHERE WHAT IT READS IS OF BULK AT MOST 1048576: true; the input reads as it did. -/
def armapSizeUptoRow : OpenClaim := { program := "ytlooblgdlfheaaa", sum := "fe2c174f65be63e405ddffbc3a6079034c8f5882dbdb0a0cac67e2f417851f8e", func := "arlink/arlinklaw07.ArmapSize", spec := "armapSize", inPlace := ["internal/bytealg.IndexByteString", "internal/bytealg.IndexByte", "internal/bytealg.Index"], unfollowed := true, recurses := true, named := ["internal/bytealg.MaxLen"], apart := false, narrowed := true }
def ArmapSizeUptoSaid : Prop := armapSizeUptoRow.holds Try.pinned (OpenSpec.upto armapSizeSpec)

/-- 'arlinklaw07.ArmapKeeps', WHERE WHAT IT READS IS OF BULK AT MOST 1048576: true; the input reads as it did. -/
def armapKeepsUptoRow : OpenClaim := { program := "ytlooblgdlfheaaa", sum := "fe2c174f65be63e405ddffbc3a6079034c8f5882dbdb0a0cac67e2f417851f8e", func := "arlink/arlinklaw07.ArmapKeeps", spec := "armapKeeps", inPlace := ["internal/bytealg.IndexByteString", "internal/bytealg.IndexByte", "internal/bytealg.Index"], unfollowed := true, recurses := true, named := ["internal/bytealg.MaxLen"], apart := false, narrowed := true }
def ArmapKeepsUptoSaid : Prop := armapKeepsUptoRow.holds Try.pinned (OpenSpec.upto armapKeepsSpec)

/-- 'arlinklaw07.ArmapConcat', WHERE WHAT IT READS IS OF BULK AT MOST 1048576: true; the input reads as it did. -/
def armapConcatUptoRow : OpenClaim := { program := "ytlooblgdlfheaaa", sum := "fe2c174f65be63e405ddffbc3a6079034c8f5882dbdb0a0cac67e2f417851f8e", func := "arlink/arlinklaw07.ArmapConcat", spec := "armapConcat", inPlace := ["internal/bytealg.IndexByteString", "internal/bytealg.IndexByte", "internal/bytealg.Index"], unfollowed := true, recurses := true, named := ["internal/bytealg.MaxLen"], apart := false, narrowed := true }
def ArmapConcatUptoSaid : Prop := armapConcatUptoRow.holds Try.pinned (OpenSpec.upto armapConcatSpec)

end Rows
end Go.Proofs.Ytlooblgdlfheaaa
