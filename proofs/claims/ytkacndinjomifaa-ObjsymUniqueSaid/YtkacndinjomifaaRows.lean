/-
  No cell of these rows narrows 'for every input' (looked for: loops, veiled, ifaces, maps, wideKeys, modest, calm, conditions, laid).
  DERIVED. THE GIVEN ROWS OF THIS SEAT. 5 by the template 'for every input the law returns true; each argument reads behind the call as it read before'; 0 by the template 'total and deterministic' (their statements: YtkacndinjomifaaTotals.lean).
  GIVEN WITH THE SEED: the statements are not yours to turn. If you find one false, say at which input.
  Laid BY PROGRAM, IN A SANDBOX (cutbox-rows.mjs): the forced cells as the released guide's own fill.sh prints them over the translation 5d0e45f6975cecdd… (all of the seat's roots in one cut). By AI agents, Wed Nov 11 2026. No macro, syntax, notation, axiom, sorry.
-/
import Derived.Test.YtkacndinjomifaaChecked
import GoSem.Claim
import GoSem.ClaimJoined
import GoSem.ClaimMapViews
import Derived.JoinedTies
import Derived.KernelRfl
namespace Go.Proofs.Ytkacndinjomifaa
/- THE CELL 'sum', in the pinned program and in every row, IS THE sha256 OF THE DUMP (.gsa) THAT YtkacndinjomifaaProg.lean LOADS. Nothing in Lean hashes anything: it is a label: what it is worth is what the hold of that sum in a sandbox is worth. -/
noncomputable def Try.pinned : Pinned := { name := "ytkacndinjomifaa", sum := "5d0e45f6975cecdd47279ed643a660c19186c29bbe3a1dce915934f2081e7e43", checked := Try.checked }
namespace Rows
def none {H : Type} : Left H := { results := [], args := [] }

/-- 'arlinklaw06.ObjsymMatchesReference': WHATEVER THE INPUT: true; the input reads as it did. -/
def objsymMatchesReferenceSpec : ChangeSpec := { name := "objsymMatchesReference", fn := fun _ => fun
  | [d1, d2, d3] => { results := [.lit (.bool true)], args := [d1, d2, d3] }
  | _ => none }
def objsymMatchesReferenceRow : OpenClaim := { program := "ytkacndinjomifaa", sum := "5d0e45f6975cecdd47279ed643a660c19186c29bbe3a1dce915934f2081e7e43", func := "arlink/arlinklaw06.ObjsymMatchesReference", spec := "objsymMatchesReference", inPlace := ["internal/bytealg.IndexByteString"], unfollowed := true, recurses := true, apart := false }
def ObjsymMatchesReferenceSaid : Prop := objsymMatchesReferenceRow.holds Try.pinned (OpenSpec.ofChange objsymMatchesReferenceSpec)

/-- ITS FALSE NEIGHBOUR: 'it returns false'. Refute it at one input. -/
def objsymMatchesReferenceWrong : ChangeSpec := { name := "objsymMatchesReference", fn := fun _ => fun
  | [d1, d2, d3] => { results := [.lit (.bool false)], args := [d1, d2, d3] }
  | _ => none }
def ObjsymMatchesReferenceWrongFalsely : Prop := objsymMatchesReferenceRow.holds Try.pinned (OpenSpec.ofChange objsymMatchesReferenceWrong)

/-- 'arlinklaw06.ObjsymUnique': WHATEVER THE INPUT: true; the input reads as it did. -/
def objsymUniqueSpec : ChangeSpec := { name := "objsymUnique", fn := fun _ => fun
  | [d1, d2] => { results := [.lit (.bool true)], args := [d1, d2] }
  | _ => none }
def objsymUniqueRow : OpenClaim := { program := "ytkacndinjomifaa", sum := "5d0e45f6975cecdd47279ed643a660c19186c29bbe3a1dce915934f2081e7e43", func := "arlink/arlinklaw06.ObjsymUnique", spec := "objsymUnique", inPlace := ["internal/bytealg.IndexByteString"], unfollowed := true, recurses := true, apart := false }
def ObjsymUniqueSaid : Prop := objsymUniqueRow.holds Try.pinned (OpenSpec.ofChange objsymUniqueSpec)

/-- ITS FALSE NEIGHBOUR: 'it returns false'. Refute it at one input. -/
def objsymUniqueWrong : ChangeSpec := { name := "objsymUnique", fn := fun _ => fun
  | [d1, d2] => { results := [.lit (.bool false)], args := [d1, d2] }
  | _ => none }
def ObjsymUniqueWrongFalsely : Prop := objsymUniqueRow.holds Try.pinned (OpenSpec.ofChange objsymUniqueWrong)

/-- 'arlinklaw06.ObjsymTruncated': WHATEVER THE INPUT: true; the input reads as it did. -/
def objsymTruncatedSpec : ChangeSpec := { name := "objsymTruncated", fn := fun _ => fun
  | [d1, d2] => { results := [.lit (.bool true)], args := [d1, d2] }
  | _ => none }
def objsymTruncatedRow : OpenClaim := { program := "ytkacndinjomifaa", sum := "5d0e45f6975cecdd47279ed643a660c19186c29bbe3a1dce915934f2081e7e43", func := "arlink/arlinklaw06.ObjsymTruncated", spec := "objsymTruncated", inPlace := ["internal/bytealg.IndexByteString"], unfollowed := true, recurses := true, apart := false }
def ObjsymTruncatedSaid : Prop := objsymTruncatedRow.holds Try.pinned (OpenSpec.ofChange objsymTruncatedSpec)

/-- ITS FALSE NEIGHBOUR: 'it returns false'. Refute it at one input. -/
def objsymTruncatedWrong : ChangeSpec := { name := "objsymTruncated", fn := fun _ => fun
  | [d1, d2] => { results := [.lit (.bool false)], args := [d1, d2] }
  | _ => none }
def ObjsymTruncatedWrongFalsely : Prop := objsymTruncatedRow.holds Try.pinned (OpenSpec.ofChange objsymTruncatedWrong)

/-- 'arlinklaw06.ObjsymPrefix': WHATEVER THE INPUT: true; the input reads as it did. -/
def objsymPrefixSpec : ChangeSpec := { name := "objsymPrefix", fn := fun _ => fun
  | [d1, d2] => { results := [.lit (.bool true)], args := [d1, d2] }
  | _ => none }
def objsymPrefixRow : OpenClaim := { program := "ytkacndinjomifaa", sum := "5d0e45f6975cecdd47279ed643a660c19186c29bbe3a1dce915934f2081e7e43", func := "arlink/arlinklaw06.ObjsymPrefix", spec := "objsymPrefix", inPlace := ["internal/bytealg.IndexByteString"], unfollowed := true, recurses := true, apart := false }
def ObjsymPrefixSaid : Prop := objsymPrefixRow.holds Try.pinned (OpenSpec.ofChange objsymPrefixSpec)

/-- ITS FALSE NEIGHBOUR: 'it returns false'. Refute it at one input. -/
def objsymPrefixWrong : ChangeSpec := { name := "objsymPrefix", fn := fun _ => fun
  | [d1, d2] => { results := [.lit (.bool false)], args := [d1, d2] }
  | _ => none }
def ObjsymPrefixWrongFalsely : Prop := objsymPrefixRow.holds Try.pinned (OpenSpec.ofChange objsymPrefixWrong)

/-- 'arlinklaw06.ObjsymKeeps': WHATEVER THE INPUT: true; the input reads as it did. -/
def objsymKeepsSpec : ChangeSpec := { name := "objsymKeeps", fn := fun _ => fun
  | [d1, d2] => { results := [.lit (.bool true)], args := [d1, d2] }
  | _ => none }
def objsymKeepsRow : OpenClaim := { program := "ytkacndinjomifaa", sum := "5d0e45f6975cecdd47279ed643a660c19186c29bbe3a1dce915934f2081e7e43", func := "arlink/arlinklaw06.ObjsymKeeps", spec := "objsymKeeps", inPlace := ["internal/bytealg.IndexByteString"], unfollowed := true, recurses := true, apart := false }
def ObjsymKeepsSaid : Prop := objsymKeepsRow.holds Try.pinned (OpenSpec.ofChange objsymKeepsSpec)

/-- ITS FALSE NEIGHBOUR: 'it returns false'. Refute it at one input. -/
def objsymKeepsWrong : ChangeSpec := { name := "objsymKeeps", fn := fun _ => fun
  | [d1, d2] => { results := [.lit (.bool false)], args := [d1, d2] }
  | _ => none }
def ObjsymKeepsWrongFalsely : Prop := objsymKeepsRow.holds Try.pinned (OpenSpec.ofChange objsymKeepsWrong)

/- THE SECOND FORM. 'bulk': how many values and letters a reading holds, each counted each time it is reached (what is shared counts as often as it is met; a slice's spare places count too). A statement '..UptoSaid' is the law's where the arguments, and the package variables that the reading takes, are together of bulk at most 1048576: NARROWER than '..Said'. Prove '..Said' where nothing that the law and all that it calls make is longer than what came in: it says more and counts as full. Else prove '..UptoSaid'. A law counts once. -/
mutual
def uptoBulk {H : Type} : DataW H → Nat
  | .lit (.string bytes) => bytes.length + 1
  | .lit _ => 1
  | .nil => 1
  | .ptr d => uptoBulk d + 1
  | .slice elems spare => uptoBulkAll elems + uptoBulkAll spare + 1
  | .agg parts => uptoBulkAll parts + 1
  | .iface _ d => uptoBulk d + 1
  | .map entries => uptoBulkEntries entries + 1
  | .held _ => 1
def uptoBulkAll {H : Type} : List (DataW H) → Nat
  | [] => 0
  | d :: r => uptoBulk d + uptoBulkAll r
def uptoBulkEntries {H : Type} : List (Lit × DataW H) → Nat
  | [] => 0
  | x :: r => uptoBulkEntry x + uptoBulkEntries r
def uptoBulkEntry {H : Type} : Lit × DataW H → Nat
  | (.string bytes, d) => bytes.length + uptoBulk d + 1
  | (_, d) => uptoBulk d + 1
 end
def uptoSmall : (H : Type) → List (DataW H) → Bool := fun _ ds => decide (uptoBulkAll ds ≤ 1048576)
def OpenSpec.upto (s : _root_.Go.ChangeSpec) : _root_.Go.OpenSpec := { _root_.Go.OpenSpec.ofChange s with cond := some uptoSmall }

/-- 'arlinklaw06.ObjsymMatchesReference', WHERE WHAT IT READS IS OF BULK AT MOST 1048576: true; the input reads as it did. -/
def objsymMatchesReferenceUptoRow : OpenClaim := { program := "ytkacndinjomifaa", sum := "5d0e45f6975cecdd47279ed643a660c19186c29bbe3a1dce915934f2081e7e43", func := "arlink/arlinklaw06.ObjsymMatchesReference", spec := "objsymMatchesReference", inPlace := ["internal/bytealg.IndexByteString"], unfollowed := true, recurses := true, apart := false, narrowed := true }
def ObjsymMatchesReferenceUptoSaid : Prop := objsymMatchesReferenceUptoRow.holds Try.pinned (OpenSpec.upto objsymMatchesReferenceSpec)

/-- 'arlinklaw06.ObjsymUnique', WHERE WHAT IT READS IS OF BULK AT MOST 1048576: true; the input reads as it did. -/
def objsymUniqueUptoRow : OpenClaim := { program := "ytkacndinjomifaa", sum := "5d0e45f6975cecdd47279ed643a660c19186c29bbe3a1dce915934f2081e7e43", func := "arlink/arlinklaw06.ObjsymUnique", spec := "objsymUnique", inPlace := ["internal/bytealg.IndexByteString"], unfollowed := true, recurses := true, apart := false, narrowed := true }
def ObjsymUniqueUptoSaid : Prop := objsymUniqueUptoRow.holds Try.pinned (OpenSpec.upto objsymUniqueSpec)

/-- 'arlinklaw06.ObjsymTruncated', WHERE WHAT IT READS IS OF BULK AT MOST 1048576: true; the input reads as it did. -/
def objsymTruncatedUptoRow : OpenClaim := { program := "ytkacndinjomifaa", sum := "5d0e45f6975cecdd47279ed643a660c19186c29bbe3a1dce915934f2081e7e43", func := "arlink/arlinklaw06.ObjsymTruncated", spec := "objsymTruncated", inPlace := ["internal/bytealg.IndexByteString"], unfollowed := true, recurses := true, apart := false, narrowed := true }
def ObjsymTruncatedUptoSaid : Prop := objsymTruncatedUptoRow.holds Try.pinned (OpenSpec.upto objsymTruncatedSpec)

/-- 'arlinklaw06.ObjsymPrefix', WHERE WHAT IT READS IS OF BULK AT MOST 1048576: true; the input reads as it did. -/
def objsymPrefixUptoRow : OpenClaim := { program := "ytkacndinjomifaa", sum := "5d0e45f6975cecdd47279ed643a660c19186c29bbe3a1dce915934f2081e7e43", func := "arlink/arlinklaw06.ObjsymPrefix", spec := "objsymPrefix", inPlace := ["internal/bytealg.IndexByteString"], unfollowed := true, recurses := true, apart := false, narrowed := true }
def ObjsymPrefixUptoSaid : Prop := objsymPrefixUptoRow.holds Try.pinned (OpenSpec.upto objsymPrefixSpec)

/-- 'arlinklaw06.ObjsymKeeps', WHERE WHAT IT READS IS OF BULK AT MOST 1048576: true; the input reads as it did. -/
def objsymKeepsUptoRow : OpenClaim := { program := "ytkacndinjomifaa", sum := "5d0e45f6975cecdd47279ed643a660c19186c29bbe3a1dce915934f2081e7e43", func := "arlink/arlinklaw06.ObjsymKeeps", spec := "objsymKeeps", inPlace := ["internal/bytealg.IndexByteString"], unfollowed := true, recurses := true, apart := false, narrowed := true }
def ObjsymKeepsUptoSaid : Prop := objsymKeepsUptoRow.holds Try.pinned (OpenSpec.upto objsymKeepsSpec)

end Rows
end Go.Proofs.Ytkacndinjomifaa
