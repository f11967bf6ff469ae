/-
  NARROWER THAN 'FOR EVERY INPUT', by the rows' own cells (each row's printed sentence says how): HeaderMatchesReference: laid · HeaderRoundTrip: laid · HeaderUnique: laid · HeaderBounds: laid · HeaderKeeps: laid.
  DERIVED. THE GIVEN ROWS OF THIS SEAT. 5 by the template 'for every input the law returns true; each argument reads behind the call as it read before'; 0 by the template 'total and deterministic' (their statements: YtfhdgbpkhcnanaaDoorTotals.lean).
  GIVEN WITH THE SEED: the statements are not yours to turn. If you find one false, say at which input.
  Laid BY PROGRAM, IN A SANDBOX (cutbox-rows.mjs): the forced cells as the released guide's own fill.sh prints them over the translation 37780a9f49ccefec… (all of the seat's roots in one cut). By AI agents, Wed Nov 11 2026. No macro, syntax, notation, axiom, sorry.
-/
import Derived.Test.YtfhdgbpkhcnanaaDoorChecked
import GoSem.PinnedTables
import GoSem.Claim
import GoSem.ClaimJoined
import GoSem.ClaimMapViews
import Derived.JoinedTies
import Derived.KernelRfl
namespace Go.Proofs.YtfhdgbpkhcnanaaDoor
/- THE CELL 'sum', in the pinned program and in every row, IS THE sha256 OF THE DUMP (.gsa) THAT YtfhdgbpkhcnanaaDoorProg.lean LOADS. Nothing in Lean hashes anything: it is a label: what it is worth is what the hold of that sum in a sandbox is worth. -/
noncomputable def Tryd.pinned : Pinned := { name := "ytfhdgbpkhcnanaadoor", sum := "37780a9f49ccefec56a3f925e147d967636d3e2ed6878be5d7ed73fec8bbb120", checked := Tryd.checked }
namespace Rows
def none {H : Type} : Left H := { results := [], args := [] }

/- WHAT THE LISTED PACKAGE-LEVEL VARIABLES READ AS WHEN THE CALL BEGINS. Each datum BY PROGRAM (the guide's laid-datum.mjs) off the statement by which the dump's own 'gosem.cut.vars' lays the variable. In a bare row this is a premise. The card (YtfhdgbpkhcnanaaDoorCards.lean) ties it to the program's text. -/
def laid_unicode_utf8_acceptRanges {H : Type} : DataW H := .agg [.agg [.lit (.int .u8 128), .lit (.int .u8 191)], .agg [.lit (.int .u8 160), .lit (.int .u8 191)], .agg [.lit (.int .u8 128), .lit (.int .u8 159)], .agg [.lit (.int .u8 144), .lit (.int .u8 191)], .agg [.lit (.int .u8 128), .lit (.int .u8 143)], .agg [.lit (.int .u8 0), .lit (.int .u8 0)], .agg [.lit (.int .u8 0), .lit (.int .u8 0)], .agg [.lit (.int .u8 0), .lit (.int .u8 0)], .agg [.lit (.int .u8 0), .lit (.int .u8 0)], .agg [.lit (.int .u8 0), .lit (.int .u8 0)], .agg [.lit (.int .u8 0), .lit (.int .u8 0)], .agg [.lit (.int .u8 0), .lit (.int .u8 0)], .agg [.lit (.int .u8 0), .lit (.int .u8 0)], .agg [.lit (.int .u8 0), .lit (.int .u8 0)], .agg [.lit (.int .u8 0), .lit (.int .u8 0)], .agg [.lit (.int .u8 0), .lit (.int .u8 0)]]
/-- One of Go's own tables, pinned by name: the form's constant. -/
def laid_unicode_utf8_first : DataW Unit := Go.Pinned.utf8First

/-- 'arlinklaw02.HeaderMatchesReference': WHATEVER THE INPUT: true; the input reads as it did. -/
def headerMatchesReferenceSpec : ChangeSpec := { name := "headerMatchesReference", fn := fun _ => fun
  | [d1, d2] => { results := [.lit (.bool true)], args := [d1, d2] }
  | _ => none }
def headerMatchesReferenceRow : OpenClaim := { program := "ytfhdgbpkhcnanaadoor", sum := "37780a9f49ccefec56a3f925e147d967636d3e2ed6878be5d7ed73fec8bbb120", func := "arlink/arlinklaw02.HeaderMatchesReference", spec := "headerMatchesReference", inPlace := ["internal/bytealg.IndexByteString", "internal/bytealg.IndexString"], unfollowed := true, recurses := true, named := ["unicode/utf8.first", "unicode/utf8.acceptRanges", "internal/bytealg.MaxLen"], apart := false, laid := [("unicode/utf8.acceptRanges", laid_unicode_utf8_acceptRanges), ("unicode/utf8.first", laid_unicode_utf8_first)] }
def HeaderMatchesReferenceSaid : Prop := headerMatchesReferenceRow.holds Tryd.pinned (OpenSpec.ofChange headerMatchesReferenceSpec)

/-- ITS FALSE NEIGHBOUR: 'it returns false'. Refute it at one input. -/
def headerMatchesReferenceWrong : ChangeSpec := { name := "headerMatchesReference", fn := fun _ => fun
  | [d1, d2] => { results := [.lit (.bool false)], args := [d1, d2] }
  | _ => none }
def HeaderMatchesReferenceWrongFalsely : Prop := headerMatchesReferenceRow.holds Tryd.pinned (OpenSpec.ofChange headerMatchesReferenceWrong)

/-- 'arlinklaw02.HeaderRoundTrip': WHATEVER THE INPUT: true; the input reads as it did. -/
def headerRoundTripSpec : ChangeSpec := { name := "headerRoundTrip", fn := fun _ => fun
  | [d1, d2] => { results := [.lit (.bool true)], args := [d1, d2] }
  | _ => none }
def headerRoundTripRow : OpenClaim := { program := "ytfhdgbpkhcnanaadoor", sum := "37780a9f49ccefec56a3f925e147d967636d3e2ed6878be5d7ed73fec8bbb120", func := "arlink/arlinklaw02.HeaderRoundTrip", spec := "headerRoundTrip", inPlace := ["internal/bytealg.IndexByteString", "internal/bytealg.IndexString"], unfollowed := true, recurses := true, named := ["unicode/utf8.first", "unicode/utf8.acceptRanges", "internal/bytealg.MaxLen"], apart := false, laid := [("unicode/utf8.acceptRanges", laid_unicode_utf8_acceptRanges), ("unicode/utf8.first", laid_unicode_utf8_first)] }
def HeaderRoundTripSaid : Prop := headerRoundTripRow.holds Tryd.pinned (OpenSpec.ofChange headerRoundTripSpec)

/-- ITS FALSE NEIGHBOUR: 'it returns false'. Refute it at one input. -/
def headerRoundTripWrong : ChangeSpec := { name := "headerRoundTrip", fn := fun _ => fun
  | [d1, d2] => { results := [.lit (.bool false)], args := [d1, d2] }
  | _ => none }
def HeaderRoundTripWrongFalsely : Prop := headerRoundTripRow.holds Tryd.pinned (OpenSpec.ofChange headerRoundTripWrong)

/-- 'arlinklaw02.HeaderUnique': WHATEVER THE INPUT: true; the input reads as it did. -/
def headerUniqueSpec : ChangeSpec := { name := "headerUnique", fn := fun _ => fun
  | [d] => { results := [.lit (.bool true)], args := [d] }
  | _ => none }
def headerUniqueRow : OpenClaim := { program := "ytfhdgbpkhcnanaadoor", sum := "37780a9f49ccefec56a3f925e147d967636d3e2ed6878be5d7ed73fec8bbb120", func := "arlink/arlinklaw02.HeaderUnique", spec := "headerUnique", inPlace := ["internal/bytealg.IndexByteString", "internal/bytealg.IndexString"], unfollowed := true, recurses := true, named := ["unicode/utf8.first", "unicode/utf8.acceptRanges", "internal/bytealg.MaxLen"], apart := false, laid := [("unicode/utf8.acceptRanges", laid_unicode_utf8_acceptRanges), ("unicode/utf8.first", laid_unicode_utf8_first)] }
def HeaderUniqueSaid : Prop := headerUniqueRow.holds Tryd.pinned (OpenSpec.ofChange headerUniqueSpec)

/-- ITS FALSE NEIGHBOUR: 'it returns false'. Refute it at one input. -/
def headerUniqueWrong : ChangeSpec := { name := "headerUnique", fn := fun _ => fun
  | [d] => { results := [.lit (.bool false)], args := [d] }
  | _ => none }
def HeaderUniqueWrongFalsely : Prop := headerUniqueRow.holds Tryd.pinned (OpenSpec.ofChange headerUniqueWrong)

/-- 'arlinklaw02.HeaderBounds': WHATEVER THE INPUT: true; the input reads as it did. -/
def headerBoundsSpec : ChangeSpec := { name := "headerBounds", fn := fun _ => fun
  | [d1, d2, d3, d4, d5] => { results := [.lit (.bool true)], args := [d1, d2, d3, d4, d5] }
  | _ => none }
def headerBoundsRow : OpenClaim := { program := "ytfhdgbpkhcnanaadoor", sum := "37780a9f49ccefec56a3f925e147d967636d3e2ed6878be5d7ed73fec8bbb120", func := "arlink/arlinklaw02.HeaderBounds", spec := "headerBounds", inPlace := ["internal/bytealg.IndexByteString", "internal/bytealg.IndexString"], unfollowed := true, recurses := true, named := ["unicode/utf8.first", "unicode/utf8.acceptRanges", "internal/bytealg.MaxLen"], apart := false, laid := [("unicode/utf8.acceptRanges", laid_unicode_utf8_acceptRanges), ("unicode/utf8.first", laid_unicode_utf8_first)] }
def HeaderBoundsSaid : Prop := headerBoundsRow.holds Tryd.pinned (OpenSpec.ofChange headerBoundsSpec)

/-- ITS FALSE NEIGHBOUR: 'it returns false'. Refute it at one input. -/
def headerBoundsWrong : ChangeSpec := { name := "headerBounds", fn := fun _ => fun
  | [d1, d2, d3, d4, d5] => { results := [.lit (.bool false)], args := [d1, d2, d3, d4, d5] }
  | _ => none }
def HeaderBoundsWrongFalsely : Prop := headerBoundsRow.holds Tryd.pinned (OpenSpec.ofChange headerBoundsWrong)

/-- 'arlinklaw02.HeaderKeeps': WHATEVER THE INPUT: true; the input reads as it did. -/
def headerKeepsSpec : ChangeSpec := { name := "headerKeeps", fn := fun _ => fun
  | [d1, d2] => { results := [.lit (.bool true)], args := [d1, d2] }
  | _ => none }
def headerKeepsRow : OpenClaim := { program := "ytfhdgbpkhcnanaadoor", sum := "37780a9f49ccefec56a3f925e147d967636d3e2ed6878be5d7ed73fec8bbb120", func := "arlink/arlinklaw02.HeaderKeeps", spec := "headerKeeps", inPlace := ["internal/bytealg.IndexByteString", "internal/bytealg.IndexString"], unfollowed := true, recurses := true, named := ["unicode/utf8.first", "unicode/utf8.acceptRanges", "internal/bytealg.MaxLen"], apart := false, laid := [("unicode/utf8.acceptRanges", laid_unicode_utf8_acceptRanges), ("unicode/utf8.first", laid_unicode_utf8_first)] }
def HeaderKeepsSaid : Prop := headerKeepsRow.holds Tryd.pinned (OpenSpec.ofChange headerKeepsSpec)

/-- ITS FALSE NEIGHBOUR: 'it returns false'. Refute it at one input. -/
def headerKeepsWrong : ChangeSpec := { name := "headerKeeps", fn := fun _ => fun
  | [d1, d2] => { results := [.lit (.bool false)], args := [d1, d2] }
  | _ => none }
def HeaderKeepsWrongFalsely : Prop := headerKeepsRow.holds Tryd.pinned (OpenSpec.ofChange headerKeepsWrong)

/- THE SECOND FORM. 'bulk': how many values and letters a reading holds, each counted each time it is reached (what is shared counts as often as it is met; a slice's spare places count too). A statement '..UptoSaid' is the law's where the arguments, and the package variables that the reading takes, are together of bulk at most 1048576: NARROWER than '..Said'. Prove '..Said' where nothing that the law and all that it calls make is longer than what came in: it says more and counts as full. Else prove '..UptoSaid'. A law counts once. -/
mutual
def uptoBulk {H : Type} : DataW H → Nat
  | .lit (.string bytes) => bytes.length + 1
  | .lit _ => 1
  | .nil => 1
  | .ptr d => uptoBulk d + 1
  | .slice elems spare => uptoBulkAll elems + uptoBulkAll spare + 1
  | .agg parts => uptoBulkAll parts + 1
  | .iface _ d => uptoBulk d + 1
  | .map entries => uptoBulkEntries entries + 1
  | .held _ => 1
def uptoBulkAll {H : Type} : List (DataW H) → Nat
  | [] => 0
  | d :: r => uptoBulk d + uptoBulkAll r
def uptoBulkEntries {H : Type} : List (Lit × DataW H) → Nat
  | [] => 0
  | x :: r => uptoBulkEntry x + uptoBulkEntries r
def uptoBulkEntry {H : Type} : Lit × DataW H → Nat
  | (.string bytes, d) => bytes.length + uptoBulk d + 1
  | (_, d) => uptoBulk d + 1
 end
def uptoSmall : (H : Type) → List (DataW H) → Bool := fun _ ds => decide (uptoBulkAll ds ≤ 1048576)
def OpenSpec.upto (s : _root_.Go.ChangeSpec) : _root_.Go.OpenSpec := { _root_.Go.OpenSpec.ofChange s with cond := some uptoSmall }

/-- 'arlinklaw02.HeaderMatchesReference', WHERE WHAT IT READS IS OF BULK AT MOST 1048576: true; the input reads as it did. -/
def headerMatchesReferenceUptoRow : OpenClaim := { program := "ytfhdgbpkhcnanaadoor", sum := "37780a9f49ccefec56a3f925e147d967636d3e2ed6878be5d7ed73fec8bbb120", func := "arlink/arlinklaw02.HeaderMatchesReference", spec := "headerMatchesReference", inPlace := ["internal/bytealg.IndexByteString", "internal/bytealg.IndexString"], unfollowed := true, recurses := true, named := ["unicode/utf8.first", "unicode/utf8.acceptRanges", "internal/bytealg.MaxLen"], apart := false, laid := [("unicode/utf8.acceptRanges", laid_unicode_utf8_acceptRanges), ("unicode/utf8.first", laid_unicode_utf8_first)], narrowed := true }
def HeaderMatchesReferenceUptoSaid : Prop := headerMatchesReferenceUptoRow.holds Tryd.pinned (OpenSpec.upto headerMatchesReferenceSpec)

/-- 'arlinklaw02.HeaderRoundTrip', WHERE WHAT IT READS IS OF BULK AT MOST 1048576: true; the input reads as it did. -/
def headerRoundTripUptoRow : OpenClaim := { program := "ytfhdgbpkhcnanaadoor", sum := "37780a9f49ccefec56a3f925e147d967636d3e2ed6878be5d7ed73fec8bbb120", func := "arlink/arlinklaw02.HeaderRoundTrip", spec := "headerRoundTrip", inPlace := ["internal/bytealg.IndexByteString", "internal/bytealg.IndexString"], unfollowed := true, recurses := true, named := ["unicode/utf8.first", "unicode/utf8.acceptRanges", "internal/bytealg.MaxLen"], apart := false, laid := [("unicode/utf8.acceptRanges", laid_unicode_utf8_acceptRanges), ("unicode/utf8.first", laid_unicode_utf8_first)], narrowed := true }
def HeaderRoundTripUptoSaid : Prop := headerRoundTripUptoRow.holds Tryd.pinned (OpenSpec.upto headerRoundTripSpec)

/-- 'arlinklaw02.HeaderUnique', WHERE WHAT IT READS IS OF BULK AT MOST 1048576: true; the input reads as it did. -/
def headerUniqueUptoRow : OpenClaim := { program := "ytfhdgbpkhcnanaadoor", sum := "37780a9f49ccefec56a3f925e147d967636d3e2ed6878be5d7ed73fec8bbb120", func := "arlink/arlinklaw02.HeaderUnique", spec := "headerUnique", inPlace := ["internal/bytealg.IndexByteString", "internal/bytealg.IndexString"], unfollowed := true, recurses := true, named := ["unicode/utf8.first", "unicode/utf8.acceptRanges", "internal/bytealg.MaxLen"], apart := false, laid := [("unicode/utf8.acceptRanges", laid_unicode_utf8_acceptRanges), ("unicode/utf8.first", laid_unicode_utf8_first)], narrowed := true }
def HeaderUniqueUptoSaid : Prop := headerUniqueUptoRow.holds Tryd.pinned (OpenSpec.upto headerUniqueSpec)

/-- 'arlinklaw02.HeaderBounds', WHERE WHAT IT READS IS OF BULK AT MOST 1048576: true; the input reads as it did. -/
def headerBoundsUptoRow : OpenClaim := { program := "ytfhdgbpkhcnanaadoor", sum := "37780a9f49ccefec56a3f925e147d967636d3e2ed6878be5d7ed73fec8bbb120", func := "arlink/arlinklaw02.HeaderBounds", spec := "headerBounds", inPlace := ["internal/bytealg.IndexByteString", "internal/bytealg.IndexString"], unfollowed := true, recurses := true, named := ["unicode/utf8.first", "unicode/utf8.acceptRanges", "internal/bytealg.MaxLen"], apart := false, laid := [("unicode/utf8.acceptRanges", laid_unicode_utf8_acceptRanges), ("unicode/utf8.first", laid_unicode_utf8_first)], narrowed := true }
def HeaderBoundsUptoSaid : Prop := headerBoundsUptoRow.holds Tryd.pinned (OpenSpec.upto headerBoundsSpec)

/-- 'arlinklaw02.HeaderKeeps', WHERE WHAT IT READS IS OF BULK AT MOST 1048576: true; the input reads as it did. -/
def headerKeepsUptoRow : OpenClaim := { program := "ytfhdgbpkhcnanaadoor", sum := "37780a9f49ccefec56a3f925e147d967636d3e2ed6878be5d7ed73fec8bbb120", func := "arlink/arlinklaw02.HeaderKeeps", spec := "headerKeeps", inPlace := ["internal/bytealg.IndexByteString", "internal/bytealg.IndexString"], unfollowed := true, recurses := true, named := ["unicode/utf8.first", "unicode/utf8.acceptRanges", "internal/bytealg.MaxLen"], apart := false, laid := [("unicode/utf8.acceptRanges", laid_unicode_utf8_acceptRanges), ("unicode/utf8.first", laid_unicode_utf8_first)], narrowed := true }
def HeaderKeepsUptoSaid : Prop := headerKeepsUptoRow.holds Tryd.pinned (OpenSpec.upto headerKeepsSpec)

end Rows
end Go.Proofs.YtfhdgbpkhcnanaaDoor
